package flat

// Divisor is a vector with a term: its Lead, and the rest of it. Number says which one of its list it is.
type Divisor struct {
	Lead    Term
	Rest    Vector
	Number  int
	inverse uint8
}

// NewDivisor of a vector with a term.
func NewDivisor(o *Order, number int, v Vector) Divisor {
	return Divisor{Lead: v[0], Rest: v[1:], Number: number, inverse: o.inverse(v[0].C)}
}

// Into: does it go into a term?
func (d *Divisor) Into(t Term) bool { return d.Lead.Place == t.Place && d.Lead.E.Into(t.E) }

// Divide a sum, from its greatest term on. find tells which divisor goes into a term, or nil. What is taken away, that divisor times a term, is told to taken; a term that none goes into is told to left. Either one ends it by a false.
func (s *Sum) Divide(find func(Term) *Divisor, taken func(*Divisor, Term) bool, left func(Term) bool) {
	for t, more := s.Next(); more; t, more = s.Next() {
		d := find(t)
		if d == nil {
			if !left(t) {
				return
			}
			continue
		}
		by := Term{E: t.E.Over(d.Lead.E), C: s.order.times(t.C, d.inverse)}
		if !taken(d, by) {
			return
		}
		// The Lead itself takes just the term away that was taken out of the sum.
		s.Add(s.order.Scale(Term{E: by.E, C: s.order.Negative(by.C)}, d.Rest))
	}
}
