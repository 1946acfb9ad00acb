package flat

import "math/bits"

// Sum of vectors, of which no more is added up than is asked for. Each row has at most about twice the terms of the one ahead, so that a short vector is not merged with a long one each time.
type Sum struct {
	order *Order
	rows  []Vector
}

// NewSum of vectors; they are not changed.
func NewSum(o *Order, vectors ...Vector) *Sum {
	s := &Sum{order: o}
	for _, v := range vectors {
		s.Add(v)
	}
	return s
}

// Add a vector.
func (s *Sum) Add(v Vector) {
	at := bits.Len(uint(len(v)))
	for at < len(s.rows) && len(s.rows[at]) > 0 {
		v = s.order.merge(v, s.rows[at])
		s.rows[at] = nil
		at = max(at, bits.Len(uint(len(v))))
	}
	for at >= len(s.rows) {
		s.rows = append(s.rows, nil)
	}
	s.rows[at] = v
}

// Next takes the greatest term away from the sum; false, if there is none.
func (s *Sum) Next() (Term, bool) {
	for {
		greatest, found := s.greatest()
		if !found {
			return Term{}, false
		}
		if greatest.C = s.take(greatest.Key); greatest.C != 0 {
			return greatest, true
		}
	}
}

// All of the sum.
func (s *Sum) All() Vector {
	var all Vector
	for t, more := s.Next(); more; t, more = s.Next() {
		all = append(all, t)
	}
	return all
}

func (s *Sum) greatest() (Term, bool) {
	var greatest Term
	found := false
	for _, row := range s.rows {
		if len(row) > 0 && (!found || row[0].Key > greatest.Key) {
			greatest, found = row[0], true
		}
	}
	return greatest, found
}

// take all terms of the greatest key away, and add up their coefficients.
func (s *Sum) take(key int64) uint8 {
	sum := uint32(0)
	for i, row := range s.rows {
		if len(row) > 0 && row[0].Key == key {
			sum += uint32(row[0].C)
			s.rows[i] = row[1:]
		}
	}
	return uint8(sum % s.order.prime)
}
