package complete_test

import (
	"fmt"
	"slices"
	"testing"

	"syzygist/api"
	"syzygist/complete"
	"syzygist/flat"
	"syzygist/poly"
	"syzygist/syzygy"
	"syzygist/vector"
)

// alike: some vectors of which each has one degree, by those of the places: more of them, at more places, than a basis may be asked for.
func alike(r api.Ring, places []int, count, seed int) []api.Vector {
	state := uint32(seed)
	next := func(n int) int {
		state = state*1664525 + 1013904223
		return int(state>>16) % n
	}
	l := make([]api.Vector, count)
	for i := range l {
		degree := slices.Max(places) + 1 + next(2)
		for _, place := range places {
			var terms []api.Term
			for range 1 + next(3) {
				e := make([]int, r.N)
				for range degree - place {
					e[next(r.N)]++
				}
				terms = append(terms, api.Term{C: 1 + next(r.P-1), E: e})
			}
			f, _ := poly.Of(r, terms)
			l[i] = append(l[i], f)
		}
	}
	return l
}

// I2: where all places are of degree 0, the Leads are those of the reduced basis, by the order that is taken.
func TestLeads(t *testing.T) {
	least := api.Ring{P: 5, N: 3, Order: api.OrderReverse, Over: api.OverMono}
	for seed := range 10 {
		rank := 1 + seed%4
		l := alike(least, make([]int, rank), 2+seed%5, seed)
		wanted := make([][]string, rank)
		for _, m := range complete.Reduced(least, rank, l) {
			place, lead, _ := vector.Lead(least, m.Vector)
			var e flat.Exponents
			for i, x := range lead.E {
				e[i] = uint16(x)
			}
			wanted[place] = append(wanted[place], fmt.Sprint(e))
		}
		got := make([][]string, rank)
		for place, leads := range complete.Leads(least, make([]int, rank), l) {
			for _, e := range leads {
				got[place] = append(got[place], fmt.Sprint(e))
			}
			slices.Sort(got[place])
			slices.Sort(wanted[place])
		}
		if !same(got, wanted) {
			t.Errorf("of %v: %v, must be %v", l, got, wanted)
		}
	}
}

// J1: steps of lists of whatever size: each one makes nothing of the one ahead, by all that does; none has a unit, and there are no more than there are variables.
func TestSteps(t *testing.T) {
	for _, order := range rings() {
		for seed := range 12 {
			r := order
			r.N = 1 + seed%3
			places := []int{0, 2, 1, 1, 0}[:1+seed%5]
			var steps []api.Step
			complete.Steps(r, places, alike(r, places, 2+seed%5, seed), func(s api.Step) { steps = append(steps, s) })
			if len(steps) == 0 || len(steps) > r.N {
				t.Errorf("%v: number %d has %d steps", r, seed, len(steps))
			}
			for i, s := range steps {
				wantStep(t, r, places, s)
				if i > 0 {
					wantNothing(t, r, len(steps[i-1].Vectors[0]), steps[i-1].Vectors, s.Vectors)
				}
				places = s.Degrees
			}
			last := steps[len(steps)-1]
			wantNothing(t, r, len(last.Vectors[0]), last.Vectors, nil)
		}
	}
}

// wantStep: with degrees that are its vectors', and do not fall, and without units.
func wantStep(t *testing.T, r api.Ring, places []int, s api.Step) {
	t.Helper()
	if len(s.Vectors) == 0 || len(s.Degrees) != len(s.Vectors) || !slices.IsSorted(s.Degrees) {
		t.Errorf("%v: %d vectors of the degrees %v", r, len(s.Vectors), s.Degrees)
	}
	for i, v := range s.Vectors {
		if degree, err := vector.Degree(r, places, v); degree != s.Degrees[i] || err != api.OK {
			t.Errorf("%v: %v is of degree %d %d, not %d", r, v, degree, err, s.Degrees[i])
		}
		for _, f := range v {
			if value, _ := poly.Value(r, f, make([]int, r.N)); value != 0 {
				t.Errorf("%v: %v has a unit", r, v)
			}
		}
	}
}

// wantNothing: some vectors make nothing of a list, and so does nothing else but what they make.
func wantNothing(t *testing.T, r api.Ring, rank int, l, vectors []api.Vector) {
	t.Helper()
	for _, v := range vectors {
		if is, err := syzygy.Is(r, rank, l, v); !is || err != api.OK {
			t.Errorf("%v: %v is no syzygy of %v: %d", r, v, l, err)
		}
	}
	module := complete.NewModule(r, len(l), vectors)
	complete.Nothing(r, rank, l, func(by api.Vector) {
		if !module.Has(by) {
			t.Errorf("%v: of %v %v makes nothing, and is not made of %v", r, l, by, vectors)
		}
	})
}
