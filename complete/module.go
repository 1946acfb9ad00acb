package complete

import (
	"syzygist/api"
	"syzygist/flat"
)

// Module of a list, by a basis of it that tells how it is made.
type Module struct {
	variables, rank int
	basis           *making
}

// NewModule of a list.
func NewModule(r api.Ring, rank int, l []api.Vector) *Module {
	// What is in a module hangs on no order; by this one the least work is done.
	r.Order, r.Over = api.OrderReverse, api.OverMono
	order := flat.NewOrder(r, rank, len(l))
	m := &Module{variables: r.N, rank: rank, basis: newMaking(order, make([]int, rank+len(l)))}
	for _, v := range tracedBasis(order, r, rank, l) {
		m.basis.put(m.basis.newMember(v))
	}
	return m
}

// Makes: is a vector in the module? If so, by what it is made is told: one term after the other, and which vector of the list that is to be scaled by it.
func (m *Module) Makes(v api.Vector, told func(number int, by api.Term)) bool {
	order := m.basis.order
	in := true
	flat.NewSum(order, order.Vector(0, v)).Divide(m.basis.find, goOn, func(t flat.Term) bool {
		number := int(t.Place) - m.rank
		// What a vector has of its own comes ahead of what tells how it is made: of one that is not in nothing was told yet.
		if number < 0 {
			in = false
			return false
		}
		t.C = order.Negative(t.C)
		told(number, t.Bare(m.variables))
		return true
	})
	return in
}
