package complete_test

import (
	"fmt"
	"slices"
	"testing"

	"syzygist/api"
	"syzygist/complete"
	"syzygist/divide"
	"syzygist/poly"
	"syzygist/vector"
)

// rings in both orders, over both.
func rings() []api.Ring {
	var l []api.Ring
	for _, order := range []int{api.OrderReverse, api.OrderWords} {
		for _, over := range []int{api.OverMono, api.OverPlace} {
			l = append(l, api.Ring{P: 5, N: 2, Order: order, Over: over})
		}
	}
	return l
}

// drawn: some vectors of a rank, the same ones each time: of more vectors, places and degrees than a basis may be asked for.
func drawn(r api.Ring, rank, count, seed int) []api.Vector {
	state := uint32(seed)
	next := func(n int) int {
		state = state*1664525 + 1013904223
		return int(state>>16) % n
	}
	l := make([]api.Vector, count)
	for i := range l {
		for range rank {
			var terms []api.Term
			for range next(4) {
				terms = append(terms, api.Term{C: next(r.P), E: []int{next(4), next(4)}})
			}
			f, _ := poly.Of(r, terms)
			l[i] = append(l[i], f)
		}
	}
	return l
}

func same(a, b any) bool { return fmt.Sprint(a) == fmt.Sprint(b) }

// F1, F2, F4: the reduced basis of a list of whatever size, and how it is made.
func TestReduced(t *testing.T) {
	for _, r := range rings() {
		for seed := range 10 {
			rank, l := 1+seed%5, drawn(r, 1+seed%5, 2+seed%6, seed)
			var b []api.Vector
			for _, m := range complete.Reduced(r, rank, l) {
				if made, err := vector.Combine(r, rank, m.By, l); err != api.OK || !same(made, m.Vector) {
					t.Errorf("%v: %v is made to %v %d by %v", r, m.Vector, made, err, m.By)
				}
				b = append(b, m.Vector)
			}
			for i, v := range b {
				if normal, err := divide.Normal(r, rank, v, slices.Delete(slices.Clone(b), i, i+1)); !normal || err != api.OK {
					t.Errorf("%v: %v: number %d is not Normal: %d", r, b, i, err)
				}
			}
			for _, v := range l {
				if _, left, err := divide.Divide(r, rank, v, b); err != api.OK || !same(left, make(api.Vector, rank)) {
					t.Errorf("%v: %v leaves %v %d", r, v, left, err)
				}
			}
			if !complete.Is(r, rank, b) {
				t.Errorf("%v: of %v: %v is none", r, l, b)
			}
		}
	}
}

// F2: of the ways to make a vector one with the least degrees is taken.
func TestSmallWays(t *testing.T) {
	r := api.Ring{P: 101, N: 3, Order: api.OrderReverse, Over: api.OverMono}
	x, y := api.Poly{{C: 1, E: []int{1, 0, 0}}}, api.Poly{{C: 1, E: []int{0, 1, 0}}}
	both := api.Poly{{C: 1, E: []int{0, 1, 1}}, {C: 1, E: []int{1, 0, 0}}}
	for _, l := range [][]api.Vector{{{x}, {y}, {both}}, {{both}, {y}, {x}}, {{y}, {both}, {x}, {nil}}} {
		wantDegrees(t, r, 1, l, 0)
	}
	r.Over = api.OverPlace
	great, unit := api.Poly{{C: 1, E: []int{3, 3, 0}}}, api.Poly{{C: 1, E: []int{0, 0, 0}}}
	for _, l := range [][]api.Vector{{{x, great}, {nil, y}, {nil, unit}}, {{nil, unit}, {nil, y}, {x, great}}} {
		wantDegrees(t, r, 2, l, 5)
	}
}

// wantDegrees: nothing is made by polynomials of a greater degree.
func wantDegrees(t *testing.T, r api.Ring, rank int, l []api.Vector, most int) {
	t.Helper()
	for _, m := range complete.Reduced(r, rank, l) {
		for _, f := range m.By {
			if len(f) > 0 && f[0].E[0]+f[0].E[1]+f[0].E[2] > most {
				t.Errorf("of %v: %v by %v", l, m.Vector, m.By)
			}
		}
	}
}

// F3: a list is a basis, or it lacks something, at each of its places.
func TestIs(t *testing.T) {
	for _, r := range rings() {
		x, y := api.Poly{{C: 2, E: []int{1, 0}}}, api.Poly{{C: 3, E: []int{0, 1}}}
		more := api.Poly{{C: 2, E: []int{1, 0}}, {C: 1, E: []int{0, 0}}}
		for place := range 5 {
			at := func(f api.Poly) api.Vector {
				v := make(api.Vector, 5)
				v[place] = f
				return v
			}
			if !complete.Is(r, 5, []api.Vector{at(nil), at(x), at(y), at(x)}) {
				t.Errorf("%v: x and y, at %d, are one", r, place)
			}
			if complete.Is(r, 5, []api.Vector{at(x), at(y), at(more)}) {
				t.Errorf("%v: with x + 3, at %d, they are none", r, place)
			}
		}
	}
}

// G1: what is made of a list of whatever size is in its module, and how is told; by the module alone, whatever else it was asked for.
func TestModule(t *testing.T) {
	for _, r := range rings() {
		for seed := range 10 {
			rank, l := 1+seed%5, drawn(r, 1+seed%5, 2+seed%4, seed)
			m := complete.NewModule(r, rank, l)
			for i := range 3 {
				v, _ := vector.Combine(r, rank, drawn(r, len(l), 1, 100*seed+i)[0], l)
				wantMade(t, r, m, l, v)
				wantNotMade(t, r, m, l, append(slices.Clone(v[:rank-1]), api.Poly{{C: 1, E: []int{0, 0}}}))
			}
		}
	}
}

// wantMade: a vector is in a module, and what is told makes it.
func wantMade(t *testing.T, r api.Ring, m *complete.Module, l []api.Vector, v api.Vector) {
	t.Helper()
	terms := make([][]api.Term, len(l))
	in := m.Makes(v, func(number int, by api.Term) { terms[number] = append(terms[number], by) })
	by := make([]api.Poly, len(l))
	for i := range by {
		by[i], _ = poly.Of(r, terms[i])
	}
	if made, err := vector.Combine(r, len(v), by, l); !in || !m.Has(v) || err != api.OK || !same(made, v) {
		t.Errorf("%v: %v of %v: %v, %v, by %v: %v %d", r, v, l, in, m.Has(v), by, made, err)
	}
}

// wantNotMade: nothing is told of a vector that is not in a module, if it is not.
func wantNotMade(t *testing.T, r api.Ring, m *complete.Module, l []api.Vector, v api.Vector) {
	t.Helper()
	var b []api.Vector
	for _, x := range complete.Reduced(r, len(v), l) {
		b = append(b, x.Vector)
	}
	_, left, err := divide.Divide(r, len(v), v, b)
	told := 0
	in := m.Makes(v, func(int, api.Term) { told++ })
	if err != api.OK || in != same(left, make(api.Vector, len(v))) || in != m.Has(v) || !in && told > 0 {
		t.Errorf("%v: %v of %v: %v, and %d terms were told", r, v, l, in, told)
	}
}

// H1, H3: what makes nothing of a list of whatever size is told, all of it, as a reduced basis that falls.
func TestNothing(t *testing.T) {
	for _, r := range rings() {
		for seed := range 12 {
			rank, count := 1+seed%3, 2+seed%5
			l := drawn(r, rank, count, seed)
			last, _ := vector.Combine(r, rank, drawn(r, count, 1, 100+seed)[0], l)
			relation := append(drawn(r, count, 1, 100+seed)[0], api.Poly{{C: r.P - 1, E: []int{0, 0}}})
			l = append(l, last)
			var all []api.Vector
			complete.Nothing(r, rank, l, func(by api.Vector) { all = append(all, by) })
			for i, s := range all {
				if made, err := vector.Combine(r, rank, s, l); err != api.OK || !same(made, make(api.Vector, rank)) {
					t.Errorf("%v: of %v: %v makes %v %d", r, l, s, made, err)
				}
				if normal, err := divide.Normal(r, count+1, s, slices.Delete(slices.Clone(all), i, i+1)); !normal || err != api.OK {
					t.Errorf("%v: %v: number %d is not Normal: %d", r, all, i, err)
				}
			}
			if !complete.Is(r, count+1, all) {
				t.Errorf("%v: of %v: %v is no basis", r, l, all)
			}
			if _, left, err := divide.Divide(r, count+1, relation, all); err != api.OK || !same(left, make(api.Vector, count+1)) {
				t.Errorf("%v: of %v: %v leaves %v %d", r, l, relation, left, err)
			}
		}
	}
}
