// Package flat: vectors as one list of terms each, which falls by a number that every term carries. The layers divide by them: two terms are compared by two numbers, whatever the order is, and no limit of what is handed in holds for what is only on the way.
package flat

import (
	"cmp"
	"slices"

	"syzygist/api"
)

// Exponents of the variables and, as the last one, of one more variable: by that one the terms of a vector can all be filled up to one degree. Where nothing is filled up it is 0.
type Exponents [api.MaxVars + 1]uint16

// Term of a vector: at its place, with its key, by which it stands in order.
type Term struct {
	Key   int64
	E     Exponents
	Place uint8
	C     uint8
}

// Vector is its terms, the greatest one first.
type Vector []Term

// Degree of exponents.
func (e Exponents) Degree() int {
	sum := 0
	for _, x := range e {
		sum += int(x)
	}
	return sum
}

// Into: does it go into another?
func (e Exponents) Into(other Exponents) bool {
	return e[0] <= other[0] && e[1] <= other[1] && e[2] <= other[2] && e[3] <= other[3]
}

// Times: the product.
func (e Exponents) Times(by Exponents) Exponents {
	return Exponents{e[0] + by[0], e[1] + by[1], e[2] + by[2], e[3] + by[3]}
}

// Over: the quotient by one that goes into it.
func (e Exponents) Over(by Exponents) Exponents {
	return Exponents{e[0] - by[0], e[1] - by[1], e[2] - by[2], e[3] - by[3]}
}

// Least that both go into.
func (e Exponents) Least(other Exponents) Exponents {
	return Exponents{max(e[0], other[0]), max(e[1], other[1]), max(e[2], other[2]), max(e[3], other[3])}
}

// Bare: the term as the layers have it, of n variables.
func (t Term) Bare(n int) api.Term {
	e := make([]int, n)
	for i := range e {
		e[i] = int(t.E[i])
	}
	return api.Term{C: int(t.C), E: e}
}

// Full: a vector as the layers have it, of n variables: of as many places as rank says, from one on.
func (v Vector) Full(n, from, rank int) api.Vector {
	full := make(api.Vector, rank)
	for _, t := range v {
		if place := int(t.Place) - from; place >= 0 && place < rank {
			full[place] = append(full[place], t.Bare(n))
		}
	}
	return full
}

func (v Vector) sort() {
	slices.SortFunc(v, func(t, u Term) int { return cmp.Compare(u.Key, t.Key) })
}
