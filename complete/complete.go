// Package complete: from a list of vectors to the reduced basis of its module, and how each vector of that is made of the list.
package complete

import (
	"slices"

	"syzygist/api"
	"syzygist/flat"
)

// Made: a vector of the module of a list, and the polynomials by which it is made.
type Made struct {
	Vector api.Vector
	By     []api.Poly
}

// Reduced: the reduced basis of the module of a list.
func Reduced(r api.Ring, rank int, l []api.Vector) []Made {
	order := flat.NewOrder(r, rank, len(l))
	rows := traced(order, l, 0, rank)
	var all []flat.Vector
	// What makes nothing is taken along: less it, the polynomials by which the others are made get as small as they can.
	for _, w := range ways(r, rank, l) {
		all = append(all, combined(order, w, rows))
	}
	var basis []Made
	for _, v := range reduced(order, rank+len(l), all) {
		if int(v[0].Place) < rank {
			basis = append(basis, Made{Vector: v.Full(r.N, 0, rank), By: v.Full(r.N, rank, len(l))})
		}
	}
	slices.Reverse(basis)
	return basis
}

// Is a list a basis?
func Is(r api.Ring, rank int, l []api.Vector) bool {
	m := newMaking(flat.NewOrder(r, rank, 0), make([]int, rank))
	for _, v := range l {
		if f := m.order.Vector(0, v); len(f) > 0 {
			m.add(f)
		}
	}
	slices.SortFunc(m.pairs, comparePairs)
	return !slices.ContainsFunc(m.pairs, func(p pair) bool { return m.leaves(m.between(p)) })
}
