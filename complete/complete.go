// Package complete: from a list of vectors to the reduced basis of its module, how each vector of that, and whatever else is in it, is made of the list, and how nothing is; and, where the vectors have degrees, to the steps of a resolution.
package complete

import (
	"slices"

	"syzygist/api"
	"syzygist/flat"
)

// Made: a vector of the module of a list, and polynomials by which it is made.
type Made struct {
	Vector api.Vector
	By     []api.Poly
}

// Reduced: the reduced basis of the module of a list.
func Reduced(r api.Ring, rank int, l []api.Vector) []Made {
	order := flat.NewOrder(r, rank, len(l))
	var basis []Made
	var some, nothing []way
	for _, v := range reduced(order, rank+len(l), tracedBasis(order, r, rank, l)) {
		if int(v[0].Place) < rank {
			basis = append(basis, Made{Vector: v.Full(r.N, 0, rank)})
			some = append(some, wayOf(v, rank))
		} else {
			nothing = append(nothing, wayOf(v, rank))
		}
	}
	newShortener(r, rank, l, nothing).tell(basis, some)
	slices.Reverse(basis)
	return basis
}

// Is a list a basis?
func Is(r api.Ring, rank int, l []api.Vector) bool {
	m := newMaking(flat.NewOrder(r, rank, 0), make([]int, rank))
	for _, v := range l {
		if f := m.order.Vector(0, v); len(f) > 0 {
			m.add(f)
		}
	}
	slices.SortFunc(m.pairs, comparePairs)
	return !slices.ContainsFunc(m.pairs, func(p pair) bool { return m.leaves(m.between(p)) })
}

// Nothing: by which polynomials nothing is made of a list. The reduced basis of all such is told, from its greatest one on.
func Nothing(r api.Ring, rank int, l []api.Vector, told func(by api.Vector)) {
	// To look at all places in one go is less work, whatever counts first in the answer.
	mono := r
	mono.Over = api.OverMono
	_, nothing := stage(mono, l, 0, rank, units(mono, len(l)))
	if r.Over == api.OverPlace {
		nothing = byPlace(r, len(l), nothing)
	}
	for _, w := range slices.Backward(nothing) {
		told(w.Full(r.N, 0, len(l)))
	}
}
