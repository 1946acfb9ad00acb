package complete

import (
	"syzygist/api"
	"syzygist/flat"
)

// Module of a list, by a basis of it that tells how it is made.
type Module struct {
	ring  api.Ring
	rank  int
	list  []api.Vector
	basis *making
}

// NewModule of a list.
func NewModule(r api.Ring, rank int, l []api.Vector) *Module {
	// What is in a module hangs on no order; by this one the least work is done.
	least := r
	least.Order, least.Over = api.OrderReverse, api.OverMono
	order := flat.NewOrder(least, rank, len(l))
	m := &Module{ring: r, rank: rank, list: l, basis: newMaking(order, make([]int, rank+len(l)))}
	for _, v := range tracedBasis(order, least, rank, l) {
		m.basis.put(m.basis.newMember(v))
	}
	return m
}

// Has: is a vector in the module?
func (m *Module) Has(v api.Vector) bool {
	in := true
	m.divide(v, func(t flat.Term) bool {
		in = !m.isOwn(t)
		return false
	})
	return in
}

// Makes: is a vector in the module? If so, by what it is made is told: one term after the other, those of each polynomial as they fall, and which vector of the list is to be scaled by it.
func (m *Module) Makes(v api.Vector, told func(number int, by api.Term)) bool {
	in := true
	var left flat.Vector
	m.divide(v, func(t flat.Term) bool {
		left = append(left, t)
		in = !m.isOwn(t)
		return in
	})
	if !in {
		return false
	}
	minus := flat.Term{C: m.basis.order.Negative(1)}
	made := []Made{{Vector: v}}
	newShortener(m.ring, m.rank, m.list, m.nothing()).tell(made, []way{wayOf(m.basis.order.Scale(minus, left), m.rank)})
	for number, f := range made[0].By {
		for _, t := range f {
			told(number, t)
		}
	}
	return true
}

// divide a vector by the basis.
func (m *Module) divide(v api.Vector, left func(flat.Term) bool) {
	flat.NewSum(m.basis.order, m.basis.order.Vector(0, v)).Divide(m.basis.find, m.basis.goOn, left)
}

// isOwn: is a term at a place of the vectors themselves? All such come ahead of what tells how something is made.
func (m *Module) isOwn(t flat.Term) bool { return int(t.Place) < m.rank }

// nothing: the ways that make nothing.
func (m *Module) nothing() []way {
	var all []way
	for _, l := range m.basis.members[m.rank:] {
		for _, x := range l {
			all = append(all, wayOf(x.all(), m.rank))
		}
	}
	return all
}
