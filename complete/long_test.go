package complete_test

import (
	"testing"

	"syzygist/api"
	"syzygist/bare"
	"syzygist/complete"
	"syzygist/vector"
)

var space = api.Ring{P: 101, N: 3, Order: api.OrderReverse, Over: api.OverMono}

func term(c int, e ...int) api.Term { return api.Term{C: c, E: e} }

// long: of this list both vectors of the basis, (1, 0) and (0, 1), are made by polynomials of too many terms, if only one order is tried.
func long() []api.Vector {
	return []api.Vector{
		{nil, {term(55, 0, 0, 3)}},
		{{term(15, 2, 0, 1), term(13, 0, 1, 1)}, {term(18, 2, 1, 0), term(81, 1, 2, 0), term(55, 0, 0, 0)}},
		{{term(3, 0, 3, 0)}, {term(8, 2, 0, 1)}},
		{{term(79, 0, 0, 0)}, {term(6, 1, 2, 0), term(33, 1, 1, 1), term(28, 0, 0, 3)}},
	}
}

// tooLong: of this list no short ways are found for some vector of the basis.
func tooLong() []api.Vector {
	return []api.Vector{
		{
			{term(44, 1, 2, 0), term(98, 0, 2, 1), term(56, 2, 0, 0), term(35, 0, 0, 0)},
			{term(49, 1, 1, 1), term(97, 1, 0, 0)},
			{term(11, 0, 2, 1), term(74, 0, 0, 0)},
		},
		{nil, {term(30, 1, 0, 2), term(32, 0, 0, 0)}, {term(59, 1, 1, 1), term(41, 0, 2, 1), term(49, 0, 0, 1)}},
		{{term(3, 0, 3, 0), term(19, 0, 2, 0), term(69, 0, 0, 0)}, nil, nil},
		{
			{term(1, 0, 1, 2), term(87, 0, 0, 0)},
			{term(95, 2, 1, 0), term(5, 1, 1, 1)},
			{term(97, 0, 3, 0), term(21, 0, 1, 0)},
		},
	}
}

// madeBy polynomials, however many terms they have.
func madeBy(r api.Ring, rank int, by []api.Poly, l []api.Vector) api.Vector {
	made := make(api.Vector, rank)
	for place := range made {
		var products []api.Poly
		for i, v := range l {
			products = append(products, bare.Product(r, by[i], v[place]))
		}
		made[place] = bare.Sum(r, products...)
	}
	return made
}

// falls: has a polynomial greater terms ahead of lesser ones, and none twice?
func falls(r api.Ring, f api.Poly) bool {
	for i := range f {
		if i > 0 && bare.Compare(r, f[i-1].E, f[i].E) <= 0 {
			return false
		}
	}
	return true
}

// F2: short ways are found, and are told by the ring's own order.
func TestReducedLong(t *testing.T) {
	basis := complete.Reduced(space, 2, long())
	if len(basis) != 2 {
		t.Errorf("%d vectors, must be 2", len(basis))
	}
	for _, m := range basis {
		if made, err := vector.Combine(space, 2, m.By, long()); err != api.OK || !same(made, m.Vector) {
			t.Errorf("%v is made to %v %d", m.Vector, made, err)
		}
	}
}

// F2: where no short ways are found, those that are told are right all the same.
func TestReducedTooLong(t *testing.T) {
	for _, m := range complete.Reduced(space, 3, tooLong()) {
		if made := madeBy(space, 3, m.By, tooLong()); !same(made, m.Vector) {
			t.Errorf("%v is made to %v", m.Vector, made)
		}
		for _, f := range m.By {
			if !falls(space, f) {
				t.Errorf("%v: what it is made by does not fall", m.Vector)
			}
		}
	}
}

// G1: by what a vector is made is told as its terms fall, each number after the other.
func TestMakesLong(t *testing.T) {
	for _, order := range []int{api.OrderReverse, api.OrderWords} {
		r := space
		r.Order = order
		l := long()
		by := make([]api.Poly, len(l))
		v := api.Vector{{term(1, 1, 0, 0)}, {term(2, 0, 0, 0)}}
		m := complete.NewModule(r, 2, l)
		in := m.Makes(v, func(number int, t api.Term) { by[number] = append(by[number], t) })
		if made, err := vector.Combine(r, 2, by, l); !in || !m.Has(v) || err != api.OK || !same(made, v) {
			t.Errorf("%v: in: %v, %v; made is %v %d", v, in, m.Has(v), made, err)
		}
	}
}
