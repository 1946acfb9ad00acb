package complete_test

import (
	"fmt"
	"slices"
	"testing"

	"syzygist/api"
	"syzygist/complete"
	"syzygist/divide"
	"syzygist/poly"
	"syzygist/vector"
)

// rings in both orders, over both.
func rings() []api.Ring {
	var l []api.Ring
	for _, order := range []int{api.OrderReverse, api.OrderWords} {
		for _, over := range []int{api.OverMono, api.OverPlace} {
			l = append(l, api.Ring{P: 5, N: 2, Order: order, Over: over})
		}
	}
	return l
}

// drawn: some vectors of a rank, the same ones each time: of more vectors, places and degrees than a basis may be asked for.
func drawn(r api.Ring, rank, count, seed int) []api.Vector {
	state := uint32(seed)
	next := func(n int) int {
		state = state*1664525 + 1013904223
		return int(state>>16) % n
	}
	l := make([]api.Vector, count)
	for i := range l {
		for range rank {
			var terms []api.Term
			for range next(4) {
				terms = append(terms, api.Term{C: next(r.P), E: []int{next(4), next(4)}})
			}
			f, _ := poly.Of(r, terms)
			l[i] = append(l[i], f)
		}
	}
	return l
}

func same(a, b any) bool { return fmt.Sprint(a) == fmt.Sprint(b) }

// F1, F2, F4: the reduced basis of a list of whatever size, and how it is made.
func TestReduced(t *testing.T) {
	for _, r := range rings() {
		for seed := range 10 {
			rank, l := 1+seed%5, drawn(r, 1+seed%5, 2+seed%6, seed)
			var b []api.Vector
			for _, m := range complete.Reduced(r, rank, l) {
				if made, err := vector.Combine(r, rank, m.By, l); err != api.OK || !same(made, m.Vector) {
					t.Errorf("%v: %v is made to %v %d by %v", r, m.Vector, made, err, m.By)
				}
				b = append(b, m.Vector)
			}
			for i, v := range b {
				if normal, err := divide.Normal(r, rank, v, slices.Delete(slices.Clone(b), i, i+1)); !normal || err != api.OK {
					t.Errorf("%v: %v: number %d is not Normal: %d", r, b, i, err)
				}
			}
			for _, v := range l {
				if _, left, err := divide.Divide(r, rank, v, b); err != api.OK || !same(left, make(api.Vector, rank)) {
					t.Errorf("%v: %v leaves %v %d", r, v, left, err)
				}
			}
			if !complete.Is(r, rank, b) {
				t.Errorf("%v: of %v: %v is none", r, l, b)
			}
		}
	}
}

// F2: of the ways to make a vector one with the least degrees is taken.
func TestSmallWays(t *testing.T) {
	r := api.Ring{P: 101, N: 3, Order: api.OrderReverse, Over: api.OverMono}
	x, y := api.Poly{{C: 1, E: []int{1, 0, 0}}}, api.Poly{{C: 1, E: []int{0, 1, 0}}}
	both := api.Poly{{C: 1, E: []int{0, 1, 1}}, {C: 1, E: []int{1, 0, 0}}}
	for _, l := range [][]api.Vector{{{x}, {y}, {both}}, {{both}, {y}, {x}}, {{y}, {both}, {x}, {nil}}} {
		wantDegrees(t, r, 1, l, 0)
	}
	r.Over = api.OverPlace
	great, unit := api.Poly{{C: 1, E: []int{3, 3, 0}}}, api.Poly{{C: 1, E: []int{0, 0, 0}}}
	for _, l := range [][]api.Vector{{{x, great}, {nil, y}, {nil, unit}}, {{nil, unit}, {nil, y}, {x, great}}} {
		wantDegrees(t, r, 2, l, 5)
	}
}

// wantDegrees: nothing is made by polynomials of a greater degree.
func wantDegrees(t *testing.T, r api.Ring, rank int, l []api.Vector, most int) {
	t.Helper()
	for _, m := range complete.Reduced(r, rank, l) {
		for _, f := range m.By {
			if len(f) > 0 && f[0].E[0]+f[0].E[1]+f[0].E[2] > most {
				t.Errorf("of %v: %v by %v", l, m.Vector, m.By)
			}
		}
	}
}

// F3: a list is a basis, or it lacks something, at each of its places.
func TestIs(t *testing.T) {
	for _, r := range rings() {
		x, y := api.Poly{{C: 2, E: []int{1, 0}}}, api.Poly{{C: 3, E: []int{0, 1}}}
		more := api.Poly{{C: 2, E: []int{1, 0}}, {C: 1, E: []int{0, 0}}}
		for place := range 5 {
			at := func(f api.Poly) api.Vector {
				v := make(api.Vector, 5)
				v[place] = f
				return v
			}
			if !complete.Is(r, 5, []api.Vector{at(nil), at(x), at(y), at(x)}) {
				t.Errorf("%v: x and y, at %d, are one", r, place)
			}
			if complete.Is(r, 5, []api.Vector{at(x), at(y), at(more)}) {
				t.Errorf("%v: with x + 3, at %d, they are none", r, place)
			}
		}
	}
}
