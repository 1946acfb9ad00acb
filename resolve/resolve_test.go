package resolve_test

import (
	"fmt"
	"math"
	"slices"
	"testing"

	"syzygist/api"
	"syzygist/bare"
	"syzygist/field"
	"syzygist/hilbert"
	"syzygist/member"
	"syzygist/poly"
	"syzygist/resolve"
	"syzygist/syzygy"
	"syzygist/vector"
)

var plane = api.Ring{P: 7, N: 2, Order: api.OrderReverse, Over: api.OverMono}

func term(c int, e ...int) api.Term { return api.Term{C: c, E: e} }

// one term alone.
func one(c int, e ...int) api.Poly { return api.Poly{term(c, e...)} }

// Wrong polynomials, each with an error of its own.
func wrongForm() api.Poly  { return one(1, 1) }
func wrongRange() api.Poly { return one(0, 1, 0) }
func wrongState() api.Poly { return api.Poly{term(1, 0, 1), term(1, 1, 0)} }
func wrongMany() api.Poly  { return make(api.Poly, 2001) }

func over(r api.Ring, order, over int) api.Ring {
	r.Order, r.Over = order, over
	return r
}

// rings of each count of variables, in both orders, over both.
func rings() []api.Ring {
	var l []api.Ring
	for _, r := range []api.Ring{{P: 2, N: 3}, {P: 101, N: 3}, {P: 7, N: 2}, {P: 3, N: 1}} {
		for _, order := range []int{api.OrderReverse, api.OrderWords} {
			l = append(l, over(r, order, api.OverMono), over(r, order, api.OverPlace))
		}
	}
	return l
}

// drawer of numbers, the same ones each time.
type drawer uint32

func (d *drawer) next(n int) int {
	*d = *d*1664525 + 1013904223
	return int(*d>>16) % n
}

// poly of at most some terms, all of a degree; none, if that is not from 1 to 3.
func (d *drawer) poly(r api.Ring, terms, degree int) api.Poly {
	var l []api.Term
	for range d.next(terms + 1) {
		e := make([]int, r.N)
		for range degree {
			e[d.next(r.N)]++
		}
		l = append(l, term(d.next(r.P), e...))
	}
	if degree < 1 || degree > 3 {
		return nil
	}
	f, _ := poly.Of(r, l)
	return f
}

// list of vectors of which each has one degree, and no units; and the degrees of its places.
func (d *drawer) list(r api.Ring, rank, count, terms int) ([]int, []api.Vector) {
	var degrees []int
	for range rank {
		degrees = append(degrees, d.next(1+d.next(7)))
	}
	var l []api.Vector
	for range count {
		var v api.Vector
		degree := degrees[d.next(rank)] + 1 + d.next(3)
		for _, place := range degrees {
			v = append(v, d.poly(r, terms, degree-place))
		}
		l = append(l, v)
	}
	return degrees, l
}

func same(a, b any) bool { return fmt.Sprint(a) == fmt.Sprint(b) }

// monomials of n variables, of a degree.
func monomials(n, degree int) [][]int {
	if degree < 0 {
		return nil
	}
	if n == 1 {
		return [][]int{{degree}}
	}
	var all [][]int
	for first := range degree + 1 {
		for _, e := range monomials(n-1, degree-first) {
			all = append(all, append([]int{first}, e...))
		}
	}
	return all
}

// rows of all products of a step's vectors and monomials that are of a degree.
func rowsOf(r api.Ring, places []int, s api.Step, degree int) [][]int {
	var rows [][]int
	for i, v := range s.Vectors {
		for _, e := range monomials(r.N, degree-s.Degrees[i]) {
			product, _ := vector.Scale(r, one(1, e...), v)
			var row []int
			for place, f := range product {
				row = append(row, coefficients(f, monomials(r.N, degree-places[place]))...)
			}
			rows = append(rows, row)
		}
	}
	return rows
}

// coefficients of a polynomial, one for each of some monomials.
func coefficients(f api.Poly, all [][]int) []int {
	row := make([]int, len(all))
	for _, x := range f {
		row[slices.IndexFunc(all, func(e []int) bool { return slices.Equal(e, x.E) })] = x.C
	}
	return row
}

// wantExact: of each degree, as many of a step's products are not independent as the next step makes; of the last one none.
func wantExact(t *testing.T, r api.Ring, x api.Resolution) {
	t.Helper()
	places := x.Degrees
	for i, s := range x.Steps {
		for degree := range 14 {
			rows := rowsOf(r, places, s, degree)
			rank, err := field.Rank(r.P, rows)
			if err == api.ErrMany {
				break
			}
			next := 0
			if i+1 < len(x.Steps) {
				next, _ = field.Rank(r.P, rowsOf(r, s.Degrees, x.Steps[i+1], degree))
			}
			if err != api.OK || rank+next != len(rows) {
				t.Errorf("%v: %v: step %d is not exact at degree %d: %d and %d of %d: %d", r, x, i+1, degree, rank, next, len(rows), err)
			}
		}
		places = s.Degrees
	}
}

// wantMinimal, and a complex, with the degrees that its vectors have: by each of them, not by Check.
func wantMinimal(t *testing.T, r api.Ring, x api.Resolution) {
	t.Helper()
	places := x.Degrees
	for i, s := range x.Steps {
		if len(s.Vectors) == 0 || len(s.Degrees) != len(s.Vectors) || !slices.IsSorted(s.Degrees) {
			t.Errorf("%v: step %d has %d vectors, and degrees %v", r, i+1, len(s.Vectors), s.Degrees)
		}
		for k, v := range s.Vectors {
			if degree, err := vector.Degree(r, places, v); degree != s.Degrees[k] || err != api.OK {
				t.Errorf("%v: number %d of step %d: %v has degree %d %d, not %d", r, k, i+1, v, degree, err, s.Degrees[k])
			}
			for _, f := range v {
				if len(f) > 0 && bare.Degree(f[len(f)-1].E) == 0 {
					t.Errorf("%v: number %d of step %d: %v has a unit", r, k, i+1, v)
				}
			}
			if i == 0 {
				continue
			}
			if is, err := syzygy.Is(r, len(x.Steps[i-1].Vectors[0]), x.Steps[i-1].Vectors, v); !is || err != api.OK {
				t.Errorf("%v: number %d of step %d: %v is no syzygy of %v: %d", r, k, i+1, v, x.Steps[i-1].Vectors, err)
			}
		}
		places = s.Degrees
	}
}

// wantResolution without an error; it is held to all of J1 but exactness, and to J3 and J4.
func wantResolution(t *testing.T, r api.Ring, degrees []int, l []api.Vector) api.Resolution {
	t.Helper()
	x, err := resolve.Resolve(r, degrees, l)
	if err != api.OK || x.Rank != len(degrees) || !slices.Equal(x.Degrees, degrees) || len(x.Steps) > r.N {
		t.Fatalf("Resolve(%v, %v, %v): %v %d", r, degrees, l, x, err)
	}
	if err := resolve.Check(r, x); err != api.OK {
		t.Errorf("Resolve(%v, %v, %v): %v: Check says %d", r, degrees, l, x, err)
	}
	wantMinimal(t, r, x)
	var first []api.Vector
	if len(x.Steps) > 0 {
		first = x.Steps[0].Vectors
	}
	if is, err := member.Same(r, len(degrees), first, l); !is || err != api.OK {
		t.Errorf("Resolve(%v, %v, %v): the first step is %v: %d", r, degrees, l, first, err)
	}
	betti, err := resolve.Betti(r, degrees, l)
	if err != api.OK || !same(betti, counted(x)) {
		t.Errorf("Betti(%v, %v, %v): %v %d, must be %v", r, degrees, l, betti, err, counted(x))
	}
	numerator, err := hilbert.Numerator(r, degrees, l)
	if err != api.OK || !slices.Equal(numerator, alternating(betti)) {
		t.Errorf("%v, %v, %v: the numerator is %v %d, and the Betti numbers %v", r, degrees, l, numerator, err, betti)
	}
	return x
}

// counted: how many vectors of each degree each step has.
func counted(x api.Resolution) []api.Betti {
	var all []api.Betti
	for i, s := range append([]api.Step{{Degrees: x.Degrees}}, x.Steps...) {
		for degree := range 50 {
			count := 0
			for _, d := range s.Degrees {
				if d == degree {
					count++
				}
			}
			if count > 0 {
				all = append(all, api.Betti{Step: i, Degree: degree, Count: count})
			}
		}
	}
	return all
}

// alternating sum of Betti numbers, by their degrees.
func alternating(all []api.Betti) []int {
	sums := make([]int, 50)
	for _, b := range all {
		sums[b.Degree] += b.Count * (1 - b.Step%2*2)
	}
	for len(sums) > 0 && sums[len(sums)-1] == 0 {
		sums = sums[:len(sums)-1]
	}
	return sums
}

func wantError(t *testing.T, what string, r api.Ring, degrees []int, l []api.Vector, wanted api.Errno) {
	t.Helper()
	x, err := resolve.Resolve(r, degrees, l)
	if x.Rank != 0 || x.Degrees != nil || x.Steps != nil || err != wanted {
		t.Errorf("%s: Resolve: %v %d, must be %d", what, x, err, wanted)
	}
	if all, err := resolve.Betti(r, degrees, l); all != nil || err != wanted {
		t.Errorf("%s: Betti: %v %d, must be %d", what, all, err, wanted)
	}
}

// J1, J3, P1: what Check of chapter 9 says comes first, then the units.
func TestErrors(t *testing.T) {
	x, unit := one(1, 1, 0), one(1, 0, 0)
	for _, c := range []struct {
		name    string
		r       api.Ring
		degrees []int
		l       []api.Vector
		want    api.Errno
	}{
		{"no ring", api.Ring{}, nil, nil, api.ErrRange},
		{"no prime", api.Ring{P: 91, N: 2, Order: 1, Over: 1}, nil, nil, api.ErrState},
		{"no such order", api.Ring{P: 7, N: 2, Order: 0, Over: 1}, nil, nil, api.ErrKind},
		{"no degrees", plane, nil, nil, api.ErrRange},
		{"61 vectors", plane, []int{7}, make([]api.Vector, 61), api.ErrMany},
		{"form, behind a unit", plane, []int{0}, []api.Vector{{unit}, {x, x}}, api.ErrForm},
		{"coefficient, behind a unit", plane, []int{0}, []api.Vector{{unit}, {wrongRange()}}, api.ErrRange},
		{"monomial", plane, []int{0}, []api.Vector{{wrongForm()}}, api.ErrForm},
		{"rising", plane, []int{0}, []api.Vector{{wrongState()}}, api.ErrState},
		{"5 vectors, with units", plane, []int{0}, slices.Repeat([]api.Vector{{unit}}, 5), api.ErrMany},
		{"4 degrees", plane, make([]int, 4), nil, api.ErrMany},
		{"degree 4, behind a unit", plane, []int{0}, []api.Vector{{unit}, {one(1, 2, 2)}}, api.ErrMany},
		{"a place of degree 7, and a unit", plane, []int{7}, []api.Vector{{unit}}, api.ErrRange},
		{"a place of degree -1", plane, []int{0, -1}, nil, api.ErrRange},
		{"mixed by the places", plane, []int{0, 1}, []api.Vector{{x, x}}, api.ErrState},
		{"a unit", plane, []int{0}, []api.Vector{{unit}}, api.ErrState},
		{"a unit at a place of a degree", plane, []int{1, 0}, []api.Vector{{unit, x}}, api.ErrState},
		{"a unit in the last one", plane, []int{1, 0}, []api.Vector{{nil, x}, {nil, nil}, {unit, nil}}, api.ErrState},
		{"a unit that others make", plane, []int{0}, []api.Vector{{unit}, {unit}}, api.ErrState},
	} {
		wantError(t, c.name, c.r, c.degrees, c.l, c.want)
	}
}

// J1, J3: resolutions that are known, in all orders.
func TestKnown(t *testing.T) {
	x, y, xx, xy, yy := one(1, 1, 0), one(1, 0, 1), one(1, 2, 0), one(1, 1, 1), one(1, 0, 2)
	for _, c := range []struct {
		name    string
		degrees []int
		l       []api.Vector
		want    numbers
	}{
		{"the document's example", []int{0}, []api.Vector{{x}, {y}}, numbers{{0, 0, 1}, {1, 1, 2}, {2, 2, 1}}},
		{"nothing", []int{3, 0, 3}, nil, numbers{{0, 0, 1}, {0, 3, 2}}},
		{"without terms", []int{6}, []api.Vector{{nil}, {{}}}, numbers{{0, 6, 1}}},
		{"x alone", []int{2}, []api.Vector{{x}}, numbers{{0, 2, 1}, {1, 3, 1}}},
		{"one twice", []int{0}, []api.Vector{{x}, {nil}, {x}}, numbers{{0, 0, 1}, {1, 1, 1}}},
		{"what the last one makes, ahead of it", []int{0}, []api.Vector{{xy}, {one(1, 2, 1)}, {y}}, numbers{{0, 0, 1}, {1, 1, 1}}},
		{"all of degree 2", []int{0}, []api.Vector{{xx}, {xy}, {yy}}, numbers{{0, 0, 1}, {1, 2, 3}, {2, 3, 2}}},
		{"of falling degrees", []int{0}, []api.Vector{{one(1, 3, 0)}, {yy}}, numbers{{0, 0, 1}, {1, 2, 1}, {1, 3, 1}, {2, 5, 1}}},
		{"crossed", []int{0, 0}, []api.Vector{{x, y}, {y, x}}, numbers{{0, 0, 2}, {1, 1, 2}}},
		{"at places of two degrees", []int{0, 1}, []api.Vector{{xx, nil}, {xy, y}, {nil, xx}}, numbers{{0, 0, 1}, {0, 1, 1}, {1, 2, 2}, {1, 3, 1}, {2, 4, 1}}},
		{"all at two places", []int{5, 4}, []api.Vector{{x, nil}, {y, nil}, {nil, x}, {nil, y}}, numbers{{0, 4, 1}, {0, 5, 1}, {1, 5, 2}, {1, 6, 2}, {2, 6, 1}, {2, 7, 1}}},
	} {
		for _, r := range rings()[8:12] {
			wantBetti(t, c.name, r, c.degrees, c.l, c.want)
		}
	}
}

// numbers: of each Betti number its step, its degree and its count.
type numbers [][3]int

// wantBetti: these numbers; and the resolution that they tell of is right.
func wantBetti(t *testing.T, what string, r api.Ring, degrees []int, l []api.Vector, wanted numbers) {
	t.Helper()
	all, err := resolve.Betti(r, degrees, l)
	var got numbers
	for _, b := range all {
		got = append(got, [3]int{b.Step, b.Degree, b.Count})
	}
	if !slices.Equal(got, wanted) || err != api.OK {
		t.Errorf("%s: Betti(%v, %v, %v): %v %d, must be %v", what, r, degrees, l, got, err, wanted)
	}
	wantExact(t, r, wantResolution(t, r, degrees, l))
}

// J1, J3: of three variables there may be three steps, and no more; of one variable one alone.
func TestAllSteps(t *testing.T) {
	for _, r := range rings()[:8] {
		x, y, z := one(1, 1, 0, 0), one(1, 0, 1, 0), one(1, 0, 0, 1)
		wantBetti(t, "variables", r, []int{0}, []api.Vector{{x}, {y}, {z}}, numbers{{0, 0, 1}, {1, 1, 3}, {2, 2, 3}, {3, 3, 1}})
		wantBetti(t, "powers", r, []int{6}, []api.Vector{{one(1, 3, 0, 0)}, {one(1, 0, 3, 0)}, {one(1, 0, 0, 3)}}, numbers{{0, 6, 1}, {1, 9, 3}, {2, 12, 3}, {3, 15, 1}})
		wantBetti(t, "a circle", r, []int{0}, []api.Vector{{one(1, 1, 1, 0)}, {one(1, 0, 1, 1)}, {one(1, 1, 0, 1)}}, numbers{{0, 0, 1}, {1, 2, 3}, {2, 3, 2}})
		// The syzygies of the variables: what is not theirs is the second half of the resolution of the variables.
		minus := func(f api.Poly) api.Poly { return one(r.P-1, f[0].E...) }
		l := []api.Vector{{y, minus(x), nil}, {z, nil, minus(x)}, {nil, z, minus(y)}}
		wantBetti(t, "syzygies of the variables", r, []int{1, 1, 1}, l, numbers{{0, 1, 3}, {1, 2, 3}, {2, 3, 1}})
	}
	for _, r := range rings()[12:] {
		wantBetti(t, "of one variable", r, []int{0}, []api.Vector{{one(1, 3)}, {one(2, 2)}}, numbers{{0, 0, 1}, {1, 2, 1}})
		wantBetti(t, "of one variable, at two places", r, []int{0, 1}, []api.Vector{{one(1, 2), one(1, 1)}, {one(1, 3), one(2, 2)}, {one(1, 2), one(1, 1)}}, numbers{{0, 0, 1}, {0, 1, 1}, {1, 2, 1}, {1, 3, 1}})
	}
}

// J1, J3, J4: of whatever lists, in all rings.
func TestResolve(t *testing.T) {
	steps := 0
	for _, r := range rings() {
		for rank := 1; rank <= 3; rank++ {
			for seed := range 12 {
				d := drawer(100*seed + rank)
				degrees, l := d.list(r, rank, seed%5, 1+seed%6)
				x := wantResolution(t, r, degrees, l)
				wantExact(t, r, x)
				steps = max(steps, len(x.Steps))
			}
		}
	}
	if steps < 3 {
		t.Errorf("only %d steps were tried", steps)
	}
}

// J3: not free: the Betti numbers are those of the module, in whatever order, and by whatever list.
func TestBettiOfModule(t *testing.T) {
	for i, r := range rings() {
		for seed := range 30 {
			d := drawer(1000 + seed)
			degrees, l := d.list(r, 1+seed%3, 3, 4)
			want, err := resolve.Betti(r, degrees, l)
			if err != api.OK {
				t.Fatalf("Betti(%v, %v, %v): %d", r, degrees, l, err)
			}
			other := rings()[i/4*4]
			more := append(turned(other, l), make(api.Vector, len(degrees)))
			slices.Reverse(more)
			wantBettiAlone(t, other, degrees, more, want)
			scaled, _ := vector.Scale(r, one(r.P-1, make([]int, r.N)...), l[0])
			wantBettiAlone(t, r, degrees, append(slices.Clone(l), scaled), want)
		}
	}
}

func wantBettiAlone(t *testing.T, r api.Ring, degrees []int, l []api.Vector, wanted []api.Betti) {
	t.Helper()
	if got, err := resolve.Betti(r, degrees, l); !same(got, wanted) || err != api.OK {
		t.Errorf("Betti(%v, %v, %v): %v %d, must be %v", r, degrees, l, got, err, wanted)
	}
}

// turned: a list as another order has it.
func turned(r api.Ring, l []api.Vector) []api.Vector {
	var all []api.Vector
	for _, v := range l {
		var w api.Vector
		for _, f := range v {
			g, _ := poly.Of(r, f)
			w = append(w, g)
		}
		all = append(all, w)
	}
	return all
}

// J1, P1: lists that are as great as they may be.
func TestGreatest(t *testing.T) {
	for _, r := range rings()[:8] {
		for rank := 1; rank <= 3; rank++ {
			for seed := range 5 {
				d := drawer(3000 + 10*seed + rank)
				var l []api.Vector
				for range 4 {
					v := make(api.Vector, rank)
					for place := range v {
						for len(v[place]) < min(4, r.P+1) {
							v[place] = d.poly(r, 6, 3)
						}
					}
					l = append(l, v)
				}
				wantResolution(t, r, []int{6, 6, 6}[:rank], l)
			}
		}
	}
}

// right: a resolution of x and y.
func right() api.Resolution {
	x, y := one(1, 1, 0), one(1, 0, 1)
	return api.Resolution{Rank: 1, Degrees: []int{0}, Steps: []api.Step{
		{Vectors: []api.Vector{{x}, {y}}, Degrees: []int{1, 1}},
		{Vectors: []api.Vector{{y, one(6, 1, 0)}}, Degrees: []int{2}},
	}}
}

func wantCheck(t *testing.T, what string, r api.Ring, x api.Resolution, wanted api.Errno) {
	t.Helper()
	if err := resolve.Check(r, x); err != wanted {
		t.Errorf("%s: Check(%v, %v): %d, must be %d", what, r, x, err, wanted)
	}
}

// J2, P1: what is wrong with the ring, then with the places: each case has what comes later wrong, too.
func TestCheckPlaces(t *testing.T) {
	for _, c := range []struct {
		name string
		r    api.Ring
		x    api.Resolution
		want api.Errno
	}{
		{"no ring", api.Ring{}, api.Resolution{}, api.ErrRange},
		{"no prime", api.Ring{P: 9, N: 2, Order: 1, Over: 1}, api.Resolution{}, api.ErrState},
		{"no such over", api.Ring{P: 7, N: 2, Order: 1, Over: 3}, api.Resolution{}, api.ErrKind},
		{"nothing", plane, api.Resolution{}, api.ErrRange},
		{"rank below 0", plane, api.Resolution{Rank: math.MinInt}, api.ErrRange},
		{"rank 41", plane, api.Resolution{Rank: 41, Degrees: make([]int, 41)}, api.ErrRange},
		{"too many steps", plane, api.Resolution{Rank: 1, Steps: make([]api.Step, 3)}, api.ErrRange},
		{"too many steps, of one variable", api.Ring{P: 7, N: 1, Order: 1, Over: 1}, api.Resolution{Rank: 1, Steps: make([]api.Step, 2)}, api.ErrRange},
		{"no degrees", plane, api.Resolution{Rank: 1, Steps: make([]api.Step, 2)}, api.ErrForm},
		{"a degree too many", plane, api.Resolution{Rank: 1, Degrees: []int{0, -1}}, api.ErrForm},
		{"a degree below 0", plane, api.Resolution{Rank: 2, Degrees: []int{0, -1}, Steps: make([]api.Step, 2)}, api.ErrRange},
		{"a degree of 201", plane, api.Resolution{Rank: 2, Degrees: []int{201, 0}, Steps: make([]api.Step, 2)}, api.ErrRange},
		{"an empty step", plane, api.Resolution{Rank: 2, Degrees: []int{200, 0}, Steps: make([]api.Step, 2)}, api.ErrNone},
		{"no steps", plane, api.Resolution{Rank: 2, Degrees: []int{200, 0}}, api.OK},
		{"no steps, of rank 40", plane, api.Resolution{Rank: 40, Degrees: make([]int, 40), Steps: []api.Step{}}, api.OK},
	} {
		wantCheck(t, c.name, c.r, c.x, c.want)
	}
}

// J2, P1: step by step, what is wrong with each, in its order.
func TestCheckSteps(t *testing.T) {
	x, y, unit := one(1, 1, 0), one(1, 0, 1), one(1, 0, 0)
	vectors := func(l ...api.Vector) []api.Vector { return l }
	for _, c := range []struct {
		name string
		do   func(x *api.Resolution)
		want api.Errno
	}{
		{"right", func(x *api.Resolution) {}, api.OK},
		{"right, not exact", func(x *api.Resolution) { x.Steps = x.Steps[:1] }, api.OK},
		{"an empty step, with degrees", func(x *api.Resolution) { x.Steps[0].Vectors = nil }, api.ErrNone},
		{"an empty step, the last one", func(x *api.Resolution) { x.Steps[1] = api.Step{} }, api.ErrNone},
		{"a wrong step ahead of an empty one", func(x *api.Resolution) { x.Steps[0].Degrees[0], x.Steps[1] = 2, api.Step{} }, api.ErrState},
		{"61 vectors, of no form", func(x *api.Resolution) { x.Steps[0] = api.Step{Vectors: make([]api.Vector, 61)} }, api.ErrMany},
		{"form", func(x *api.Resolution) { x.Steps[1].Vectors[0] = api.Vector{y} }, api.ErrForm},
		{"monomial, ahead of degrees", func(x *api.Resolution) { x.Steps[0] = api.Step{Vectors: vectors(api.Vector{wrongForm()})} }, api.ErrForm},
		{"coefficient, ahead of degrees", func(x *api.Resolution) { x.Steps[0] = api.Step{Vectors: vectors(api.Vector{wrongRange()})} }, api.ErrRange},
		{"rising, ahead of degrees", func(x *api.Resolution) { x.Steps[0] = api.Step{Vectors: vectors(api.Vector{wrongState()})} }, api.ErrState},
		{"too many terms, ahead of degrees", func(x *api.Resolution) { x.Steps[0] = api.Step{Vectors: vectors(api.Vector{wrongMany()})} }, api.ErrMany},
		{"a degree too few", func(x *api.Resolution) { x.Steps[0].Degrees = []int{7} }, api.ErrForm},
		{"a degree too many", func(x *api.Resolution) { x.Steps[1].Degrees = []int{2, 2} }, api.ErrForm},
		{"no degrees of a unit", func(x *api.Resolution) { x.Steps[0] = api.Step{Vectors: vectors(api.Vector{unit})} }, api.ErrForm},
		{"another degree", func(x *api.Resolution) { x.Steps[1].Degrees[0] = 3 }, api.ErrState},
		{"the degree of the monomial alone", func(x *api.Resolution) { x.Steps[1].Degrees[0] = 1 }, api.ErrState},
		{"places of another degree", func(x *api.Resolution) { x.Degrees[0] = 1 }, api.ErrState},
		{"all of a greater degree", func(x *api.Resolution) {
			x.Degrees[0], x.Steps[0].Degrees, x.Steps[1].Degrees = 198, []int{199, 199}, []int{200}
		}, api.OK},
		{"no terms", func(x *api.Resolution) { x.Steps[1].Vectors[0] = api.Vector{nil, nil} }, api.ErrState},
		{"no terms, of degree 0", func(x *api.Resolution) {
			x.Steps = []api.Step{{Vectors: vectors(api.Vector{nil}), Degrees: []int{0}}}
		}, api.ErrState},
		{"two degrees in one vector", func(x *api.Resolution) {
			x.Steps = []api.Step{{Vectors: vectors(api.Vector{{term(1, 1, 1), term(1, 1, 0)}}), Degrees: []int{2}}}
		}, api.ErrState},
		{"falling degrees", func(x *api.Resolution) {
			x.Steps = []api.Step{{Vectors: vectors(api.Vector{one(1, 2, 0)}, api.Vector{y}), Degrees: []int{2, 1}}}
		}, api.ErrState},
		{"rising degrees", func(x *api.Resolution) {
			x.Steps = []api.Step{{Vectors: vectors(api.Vector{y}, api.Vector{one(1, 2, 0)}), Degrees: []int{1, 2}}}
		}, api.OK},
		{"a unit", func(x *api.Resolution) {
			x.Steps = []api.Step{{Vectors: vectors(api.Vector{unit}), Degrees: []int{0}}}
		}, api.ErrState},
		{"a unit in the last step", func(z *api.Resolution) {
			z.Steps[0].Vectors = vectors(api.Vector{x}, api.Vector{x})
			z.Steps[1] = api.Step{Vectors: vectors(api.Vector{unit, one(6, 0, 0)}), Degrees: []int{1}}
		}, api.ErrState},
		{"no complex", func(z *api.Resolution) { z.Steps[1].Vectors[0] = api.Vector{y, x} }, api.ErrState},
		{"no complex, by the second vector", func(z *api.Resolution) {
			z.Steps[1].Vectors, z.Steps[1].Degrees = append(z.Steps[1].Vectors, api.Vector{x, y}), []int{2, 2}
		}, api.ErrState},
	} {
		z := right()
		c.do(&z)
		wantCheck(t, c.name, plane, z, c.want)
	}
}

// J2: as many vectors and places as there may be; a step stands in as many places as the one ahead has vectors.
func TestCheckGreatest(t *testing.T) {
	x := one(1, 1, 0)
	places := func(n int) api.Vector { return slices.Repeat(api.Vector{x}, n) }
	step := func(count, rank, degree int) api.Step {
		return api.Step{Vectors: slices.Repeat([]api.Vector{places(rank)}, count), Degrees: slices.Repeat([]int{degree}, count)}
	}
	wide := api.Resolution{Rank: 40, Degrees: make([]int, 40), Steps: []api.Step{step(60, 40, 1)}}
	wantCheck(t, "60 vectors of rank 40", plane, wide, api.OK)
	wide.Steps = append(wide.Steps, step(1, 60, 2))
	wantCheck(t, "then a step of rank 60", plane, wide, api.ErrRange)
	// 40 times x makes 40*x^2, which modulo 5 is nothing.
	five := over(api.Ring{P: 5, N: 2}, api.OrderWords, api.OverPlace)
	wide.Steps = []api.Step{step(40, 40, 1), step(60, 40, 2)}
	wantCheck(t, "60 vectors, of 40", five, wide, api.OK)
	wantCheck(t, "60 vectors, of 40, modulo 7", plane, wide, api.ErrState)
	wide.Steps = []api.Step{step(41, 40, 1), step(1, 41, 2)}
	wantCheck(t, "a step of rank 41", five, wide, api.ErrRange)
}

// J2: what chapter 4 has no degree for, and what Combine makes nothing else of than an error, is not as it must be.
func TestCheckTooGreat(t *testing.T) {
	far, other := one(1, 150, 0), one(1, 0, 150)
	x := api.Resolution{Rank: 1, Degrees: []int{0}, Steps: []api.Step{
		{Vectors: []api.Vector{{far}, {other}}, Degrees: []int{150, 150}},
		{Vectors: []api.Vector{{other, one(6, 150, 0)}}, Degrees: []int{300}},
	}}
	wantCheck(t, "products of degree 300", plane, x, api.ErrState)
	y := right()
	y.Degrees, y.Steps[0].Degrees, y.Steps[1].Degrees = []int{200}, []int{201, 201}, []int{202}
	wantCheck(t, "places of degree 201", plane, y, api.ErrState)
	y.Steps = y.Steps[:1]
	wantCheck(t, "vectors of degree 201", plane, y, api.OK)
}

// J2: one that Resolve answers, with whatever is changed in it, may not be, but if it is only cut.
func TestCheckChanged(t *testing.T) {
	for _, r := range rings()[:8] {
		for seed := range 20 {
			d := drawer(4000 + seed)
			degrees, l := d.list(r, 1+seed%3, 4, 4)
			for number := range wantResolution(t, r, degrees, l).Steps {
				x, _ := resolve.Resolve(r, degrees, l)
				s := x.Steps[number]
				x.Steps = x.Steps[:number+1]
				wantCheck(t, "cut", r, x, api.OK)
				s.Degrees[d.next(len(s.Degrees))]++
				wantCheck(t, "a degree too great", r, x, api.ErrState)
			}
		}
	}
}

// roomy: a vector with spare room behind each of its lists.
func roomy(c int, e ...int) api.Vector {
	exponents := append(e, -5)
	f := api.Poly{{C: c, E: exponents[:2]}, {C: -8, E: []int{-8}}}
	return api.Vector{f[:1], one(-7, -7)}[:1]
}

// whole: what stands in the room of lists.
func whole(degrees []int, l []api.Vector) string {
	s := fmt.Sprint(degrees[:cap(degrees)], l[:cap(l)])
	for _, v := range l {
		s += fmt.Sprint(v[:cap(v)])
		for _, f := range v {
			s += fmt.Sprint(f[:cap(f)])
			for _, t := range f {
				s += fmt.Sprint(t.E[:cap(t.E)])
			}
		}
	}
	return s
}

// spoil all of a vector, its room too.
func spoil(v api.Vector) {
	for i, f := range v {
		for k := range f {
			f[k].C = 77
			for n := range f[k].E {
				f[k].E[n] = 88
			}
			_ = append(f[k].E, 99)
		}
		v[i] = append(f, term(99))[:len(f)]
	}
	_ = append(v, one(99))
}

// P2, P3: what is handed in is only read and not kept; what is answered is new memory, and the same each time.
func TestReadsOnlyAnswersNew(t *testing.T) {
	degrees := []int{2, -9}[:1]
	l := []api.Vector{roomy(2, 2, 1), roomy(5, 1, 2), roomy(1, 0, 3), {nil}}[:3]
	before := whole(degrees, l)
	x, err := resolve.Resolve(plane, degrees, l)
	betti, _ := resolve.Betti(plane, degrees, l)
	told := fmt.Sprint(x, err, betti)
	for _, s := range x.Steps {
		for _, v := range s.Vectors {
			spoil(v)
		}
		s.Degrees[0] = 99
		_ = append(s.Degrees, 98)
	}
	x.Degrees[0] = 97
	_ = append(x.Degrees, 96)
	betti[0].Count = 95
	if after := whole(degrees, l); after != before {
		t.Errorf("what was handed in is %s, and was %s", after, before)
	}
	x, err = resolve.Resolve(plane, degrees, l)
	betti, _ = resolve.Betti(plane, degrees, l)
	if again := fmt.Sprint(x, err, betti); again != told {
		t.Errorf("%s, and then %s", told, again)
	}
	for _, v := range l {
		spoil(v)
	}
	degrees[0] = 5
	if again := fmt.Sprint(x, err, betti); again != told {
		t.Errorf("kept what was handed in: %s, and then %s", told, again)
	}
}

// P2: no two lists of an answer share memory: one is spoilt after the other, and all that is not spoilt yet stays.
func TestListsOfAnswerApart(t *testing.T) {
	l := []api.Vector{{one(1, 2, 0)}, {{term(1, 1, 1), term(1, 0, 2)}}}
	x := wantResolution(t, plane, []int{0}, l)
	wanted, _ := resolve.Resolve(plane, []int{0}, l)
	x.Degrees[0] = 77
	_ = append(x.Degrees, 78)
	for i, s := range x.Steps {
		if !same(x.Steps[i:], wanted.Steps[i:]) {
			t.Errorf("%v, must be %v", x.Steps[i:], wanted.Steps[i:])
		}
		for k := range s.Degrees {
			s.Degrees[k] = 77
		}
		_ = append(s.Degrees, 78)
		for k, v := range s.Vectors {
			if !same(s.Vectors[k:], wanted.Steps[i].Vectors[k:]) {
				t.Errorf("%v, must be %v", s.Vectors[k:], wanted.Steps[i].Vectors[k:])
			}
			for place := range v {
				if !same(v[place:], wanted.Steps[i].Vectors[k][place:]) {
					t.Errorf("%v, must be %v", v[place:], wanted.Steps[i].Vectors[k][place:])
				}
				spoil(v[place : place+1 : place+1])
			}
			_ = append(v, one(99))
		}
		_ = append(s.Vectors, api.Vector{})
	}
}

// P2: what is checked is only read.
func TestCheckReadsOnly(t *testing.T) {
	x := right()
	before := fmt.Sprint(x)
	for range 2 {
		wantCheck(t, "right", plane, x, api.OK)
	}
	if after := fmt.Sprint(x); after != before {
		t.Errorf("%s, and was %s", after, before)
	}
}

func Example() {
	r := api.Ring{P: 7, N: 2, Order: api.OrderReverse, Over: api.OverMono}
	l := []api.Vector{{{{C: 1, E: []int{1, 0}}}}, {{{C: 1, E: []int{0, 1}}}}}
	x, err := resolve.Resolve(r, []int{0}, l)
	betti, _ := resolve.Betti(r, []int{0}, l)
	fmt.Println(x.Steps[0].Degrees, x.Steps[1].Degrees, err, resolve.Check(r, x), betti)
	// Output: [1 1] [2] 0 0 [{0 0 1} {1 1 2} {2 2 1}]
}
