package vector_test

import (
	"fmt"
	"math"
	"reflect"
	"slices"
	"testing"

	"syzygist/api"
	"syzygist/mono"
	"syzygist/poly"
	"syzygist/vector"
)

var plane = api.Ring{P: 7, N: 2, Order: api.OrderReverse, Over: api.OverMono}

func term(c int, e ...int) api.Term { return api.Term{C: c, E: e} }

// one term alone.
func one(c int, e ...int) api.Poly { return api.Poly{term(c, e...)} }

// Wrong polynomials, each with an error of its own.
func wrongForm() api.Poly  { return one(1, 1) }
func wrongRange() api.Poly { return one(0, 1, 0) }
func wrongState() api.Poly { return api.Poly{term(1, 0, 1), term(1, 1, 0)} }
func wrongMany() api.Poly  { return make(api.Poly, 2001) }

func over(r api.Ring, order, over int) api.Ring {
	r.Order, r.Over = order, over
	return r
}

// rings of each count of variables, in both orders, over both.
func rings() []api.Ring {
	var l []api.Ring
	for _, r := range []api.Ring{{P: 2, N: 3}, {P: 7, N: 2}, {P: 101, N: 1}} {
		for _, order := range []int{api.OrderReverse, api.OrderWords} {
			l = append(l, over(r, order, api.OverMono), over(r, order, api.OverPlace))
		}
	}
	return l
}

// wrongRings, and what is told of each.
func wrongRings() map[api.Ring]api.Errno {
	return map[api.Ring]api.Errno{
		{}:                              api.ErrRange,
		{P: 9, N: 9}:                    api.ErrState,
		{P: 7, N: 4}:                    api.ErrRange,
		{P: 7, N: 2, Order: 3, Over: 1}: api.ErrKind,
		{P: 7, N: 2, Order: 1, Over: 3}: api.ErrKind,
	}
}

// upTo: all monomials of n variables of at most a degree.
func upTo(n, degree int) [][]int {
	if n == 0 {
		return [][]int{{}}
	}
	var l [][]int
	for x := range degree + 1 {
		for _, rest := range upTo(n-1, degree-x) {
			l = append(l, append([]int{x}, rest...))
		}
	}
	return l
}

// sorted: the polynomial of a coefficient and monomials that differ.
func sorted(r api.Ring, c int, l [][]int) api.Poly {
	var f api.Poly
	for _, e := range l {
		f = append(f, term(c, e...))
	}
	slices.SortFunc(f, func(s, t api.Term) int { k, _ := mono.Order(r, t.E, s.E); return k })
	return f
}

// drawn: some polynomials with small degrees, the same ones each time.
func drawn(r api.Ring, count, seed int) []api.Poly {
	state := uint32(seed)
	next := func(n int) int {
		state = state*1664525 + 1013904223
		return int(state>>16) % n
	}
	var l []api.Poly
	for range count {
		var chosen api.Poly
		for _, t := range sorted(r, 1, upTo(r.N, 2)) {
			if next(3) == 0 {
				chosen = append(chosen, term(1+next(r.P-1), t.E...))
			}
		}
		l = append(l, chosen)
	}
	return l
}

// drawnVectors of a rank, that without terms among them.
func drawnVectors(r api.Ring, rank, count int) []api.Vector {
	l := []api.Vector{make(api.Vector, rank)}
	for i := range count {
		l = append(l, drawn(r, rank, 7*i+rank))
	}
	return l
}

// same: of nil and empty polynomials, too.
func same(v, w api.Vector) bool { return fmt.Sprint(v) == fmt.Sprint(w) }

func want(t *testing.T, what string, got api.Vector, err api.Errno, wanted api.Vector, wantErr api.Errno) {
	t.Helper()
	if !same(got, wanted) || err != wantErr || wantErr != api.OK && got != nil {
		t.Errorf("%s: %v %d, must be %v %d", what, got, err, wanted, wantErr)
	}
}

func wantLead(t *testing.T, r api.Ring, v api.Vector, place int, lead api.Term, wanted api.Errno) {
	t.Helper()
	at, got, err := vector.Lead(r, v)
	if at != place || !reflect.DeepEqual(got, lead) || err != wanted {
		t.Errorf("Lead(%v, %v): %d %v %d, must be %d %v %d", r, v, at, got, err, place, lead, wanted)
	}
}

func wantDegree(t *testing.T, r api.Ring, degrees []int, v api.Vector, wanted int, wantErr api.Errno) {
	t.Helper()
	if got, err := vector.Degree(r, degrees, v); got != wanted || err != wantErr {
		t.Errorf("Degree(%v, %v, %v): %d %d, must be %d %d", r, degrees, v, got, err, wanted, wantErr)
	}
}

// wantError of all calls that have one vector, each with nothing else.
func wantError(t *testing.T, r api.Ring, v api.Vector, wanted api.Errno) {
	t.Helper()
	got, err := vector.Add(r, v, v)
	want(t, "Add", got, err, nil, wanted)
	got, err = vector.Scale(r, nil, v)
	want(t, "Scale", got, err, nil, wanted)
	wantLead(t, r, v, 0, api.Term{}, wanted)
	wantDegree(t, r, nil, v, 0, wanted)
}

// D1: the ring's errors come first, of all calls.
func TestRingFirst(t *testing.T) {
	for r, wanted := range wrongRings() {
		for _, v := range []api.Vector{nil, {nil}, {wrongMany()}, make(api.Vector, 41)} {
			wantError(t, r, v, wanted)
			if err := vector.Check(r, 0, []api.Vector{v}); err != wanted {
				t.Errorf("Check(%v): %d, must be %d", r, err, wanted)
			}
			got, err := vector.Combine(r, 0, nil, []api.Vector{v})
			want(t, "Combine", got, err, nil, wanted)
			got, err = vector.Scale(r, wrongState(), v)
			want(t, "Scale", got, err, nil, wanted)
		}
	}
}

// D1: Check, and which error comes first; Combine tells the same ahead of all else (D3).
func TestCheck(t *testing.T) {
	right := api.Vector{one(1, 1, 0), nil}
	for _, c := range []struct {
		name string
		rank int
		l    []api.Vector
		want api.Errno
	}{
		{"none", 1, nil, api.OK},
		{"greatest rank", 40, []api.Vector{make(api.Vector, 40)}, api.OK},
		{"as many as may be", 2, slices.Repeat([]api.Vector{right}, 60), api.OK},
		{"rank 0", 0, nil, api.ErrRange},
		{"rank below 0", math.MinInt, nil, api.ErrRange},
		{"rank 41", 41, nil, api.ErrRange},
		{"greatest number", math.MaxInt, nil, api.ErrRange},
		{"rank ahead of how many", 0, make([]api.Vector, 61), api.ErrRange},
		{"too many", 2, slices.Repeat([]api.Vector{right}, 61), api.ErrMany},
		{"how many ahead of their form", 1, make([]api.Vector, 61), api.ErrMany},
		{"too few polynomials", 2, []api.Vector{right, {nil}}, api.ErrForm},
		{"too many polynomials", 2, []api.Vector{right, {nil, nil, nil}}, api.ErrForm},
		{"no polynomials", 1, []api.Vector{{}}, api.ErrForm},
		{"form ahead of its polynomials", 2, []api.Vector{{wrongMany()}}, api.ErrForm},
		{"first vector ahead of the second one's form", 2, []api.Vector{{nil, wrongState()}, {nil}}, api.ErrState},
		{"second vector after the first one's form", 2, []api.Vector{{nil}, {nil, wrongState()}}, api.ErrForm},
		{"first polynomial ahead of the second one", 2, []api.Vector{right, {wrongState(), wrongMany()}}, api.ErrState},
		{"too many terms", 2, []api.Vector{right, {wrongMany(), wrongState()}}, api.ErrMany},
		{"wrong coefficient", 2, []api.Vector{right, {nil, wrongRange()}}, api.ErrRange},
		{"wrong monomial", 2, []api.Vector{{wrongForm(), nil}, right}, api.ErrForm},
	} {
		t.Run(c.name, func(t *testing.T) {
			if got := vector.Check(plane, c.rank, c.l); got != c.want {
				t.Errorf("%d, must be %d", got, c.want)
			}
			if c.want != api.OK {
				got, err := vector.Combine(plane, c.rank, []api.Poly{wrongMany()}, c.l)
				want(t, "Combine", got, err, nil, c.want)
			}
		})
	}
}

// D1: what the others tell of one vector.
func TestWrongVector(t *testing.T) {
	for _, c := range []struct {
		v    api.Vector
		want api.Errno
	}{
		{nil, api.ErrRange},
		{api.Vector{}, api.ErrRange},
		{make(api.Vector, 41), api.ErrRange},
		{slices.Repeat(api.Vector{wrongForm()}, 41), api.ErrRange},
		{api.Vector{wrongForm()}, api.ErrForm},
		{api.Vector{nil, wrongMany()}, api.ErrMany},
		{api.Vector{wrongState(), wrongMany()}, api.ErrState},
		{api.Vector{one(1, 1, 0), wrongRange(), wrongForm()}, api.ErrRange},
	} {
		wantError(t, plane, c.v, c.want)
	}
}

// C1, D1 to D4: of a polynomial that rises, that is told, and not what is wrong with a later term, by all calls.
func TestRisingAheadOfLaterTerms(t *testing.T) {
	for _, later := range []api.Term{term(0, 0, 0), term(7, 0, 0), term(1, 0), term(1, 0, -1), term(1, 201, 0)} {
		f := append(wrongState(), later)
		v := api.Vector{nil, f}
		wantError(t, plane, v, api.ErrState)
		if err := vector.Check(plane, 2, []api.Vector{v}); err != api.ErrState {
			t.Errorf("Check, with %v behind: %d", later, err)
		}
		got, err := vector.Scale(plane, f, api.Vector{nil})
		want(t, fmt.Sprint("Scale by it, with behind ", later), got, err, nil, api.ErrState)
		got, err = vector.Combine(plane, 2, []api.Poly{nil}, []api.Vector{v})
		want(t, fmt.Sprint("Combine of it, with behind ", later), got, err, nil, api.ErrState)
		got, err = vector.Combine(plane, 1, []api.Poly{f}, []api.Vector{{nil}})
		want(t, fmt.Sprint("Combine by it, with behind ", later), got, err, nil, api.ErrState)
	}
}

// D1: what Add tells of two vectors, in its order.
func TestAddErrors(t *testing.T) {
	for _, c := range []struct {
		v, w api.Vector
		want api.Errno
	}{
		{api.Vector{nil}, nil, api.ErrRange},
		{nil, api.Vector{nil}, api.ErrRange},
		{api.Vector{wrongForm()}, make(api.Vector, 41), api.ErrRange},
		{make(api.Vector, 41), api.Vector{wrongForm()}, api.ErrRange},
		{api.Vector{nil}, api.Vector{nil, nil}, api.ErrForm},
		{api.Vector{nil, nil}, api.Vector{nil}, api.ErrForm},
		{api.Vector{wrongRange()}, api.Vector{nil, nil}, api.ErrForm},
		{api.Vector{nil, nil}, api.Vector{wrongMany()}, api.ErrForm},
		{api.Vector{nil, wrongState()}, api.Vector{wrongMany(), nil}, api.ErrState},
		{api.Vector{nil, nil}, api.Vector{wrongForm(), wrongRange()}, api.ErrForm},
		{api.Vector{nil, wrongMany()}, api.Vector{wrongForm(), nil}, api.ErrMany},
	} {
		got, err := vector.Add(plane, c.v, c.w)
		want(t, fmt.Sprint("Add of ", len(c.v), len(c.w)), got, err, nil, c.want)
	}
}

// D2: of Scale those of f are ahead of all of v; what is too great comes last.
func TestScaleErrors(t *testing.T) {
	for _, c := range []struct {
		name string
		f    api.Poly
		v    api.Vector
		want api.Errno
	}{
		{"f ahead of how many", wrongState(), nil, api.ErrState},
		{"f ahead of its polynomials", wrongForm(), api.Vector{wrongMany()}, api.ErrForm},
		{"polynomials ahead of the degree", one(1, 200, 0), api.Vector{one(1, 1, 0), wrongState()}, api.ErrState},
		{"degree", one(1, 51, 0), api.Vector{nil, one(1, 150, 0)}, api.ErrMany},
		{"degree of the first one", one(1, 51, 0), api.Vector{one(1, 0, 150), nil}, api.ErrMany},
	} {
		got, err := vector.Scale(plane, c.f, c.v)
		want(t, c.name, got, err, nil, c.want)
	}
	got, err := vector.Scale(plane, one(2, 50, 0), api.Vector{one(1, 150, 0), nil})
	want(t, "greatest degree", got, err, api.Vector{one(2, 200, 0), nil}, api.OK)
}

// D2: sums with too many terms.
func TestAddMany(t *testing.T) {
	r := api.Ring{P: 101, N: 3, Order: api.OrderReverse, Over: api.OverMono}
	all := sorted(r, 1, upTo(3, 25))
	got, err := vector.Add(r, api.Vector{nil, all[:2000]}, api.Vector{nil, all[1:2001]})
	want(t, "2001 terms", got, err, nil, api.ErrMany)
	got, err = vector.Add(r, api.Vector{all[:1000], nil}, api.Vector{all[1000:2000], nil})
	want(t, "2000 terms", got, err, api.Vector{all[:2000], nil}, api.OK)
}

// D2: sums and products, polynomial by polynomial.
func TestAddScale(t *testing.T) {
	for _, r := range rings() {
		for rank := 1; rank <= 3; rank++ {
			l := drawnVectors(r, rank, 4)
			for _, v := range l {
				for _, w := range l {
					sum := make(api.Vector, rank)
					product := make(api.Vector, rank)
					for i := range rank {
						sum[i], _ = poly.Add(r, v[i], w[i])
						product[i], _ = poly.Mul(r, w[0], v[i])
					}
					got, err := vector.Add(r, v, w)
					want(t, "Add", got, err, sum, api.OK)
					got, err = vector.Scale(r, w[0], v)
					want(t, "Scale", got, err, product, api.OK)
				}
			}
		}
	}
	got, err := vector.Scale(plane, nil, make(api.Vector, 40))
	want(t, "40 polynomials", got, err, make(api.Vector, 40), api.OK)
	got, err = vector.Add(plane, make(api.Vector, 40), make(api.Vector, 40))
	want(t, "40 polynomials", got, err, make(api.Vector, 40), api.OK)
}

// D2: the lead, by both orders, over both.
func TestLead(t *testing.T) {
	r := api.Ring{P: 7, N: 3}
	// y^2 is more than x*z by one order, and less by the other.
	two := api.Vector{one(2, 1, 0, 1), one(3, 0, 2, 0)}
	wantLead(t, over(r, api.OrderReverse, api.OverMono), two, 1, term(3, 0, 2, 0), api.OK)
	wantLead(t, over(r, api.OrderWords, api.OverMono), two, 0, term(2, 1, 0, 1), api.OK)
	wantLead(t, over(r, api.OrderReverse, api.OverPlace), two, 0, term(2, 1, 0, 1), api.OK)
	alike := api.Vector{nil, one(2, 1, 0, 0), one(3, 1, 0, 0)}
	later := api.Vector{nil, {term(2, 1, 0, 0), term(4, 0, 0, 0)}, {term(5, 0, 3, 0), term(6, 1, 0, 0)}}
	last := api.Vector{nil, nil, one(3, 0, 0, 0)}
	for _, order := range []int{api.OrderReverse, api.OrderWords} {
		mono, place := over(r, order, api.OverMono), over(r, order, api.OverPlace)
		wantLead(t, mono, alike, 1, term(2, 1, 0, 0), api.OK)
		wantLead(t, place, alike, 1, term(2, 1, 0, 0), api.OK)
		wantLead(t, mono, later, 2, term(5, 0, 3, 0), api.OK)
		wantLead(t, place, later, 1, term(2, 1, 0, 0), api.OK)
		wantLead(t, mono, last, 2, term(3, 0, 0, 0), api.OK)
		wantLead(t, place, last, 2, term(3, 0, 0, 0), api.OK)
		wantLead(t, mono, make(api.Vector, 40), 0, api.Term{}, api.ErrNone)
		wantLead(t, place, api.Vector{{}}, 0, api.Term{}, api.ErrNone)
	}
}

// D2: no term of a vector is more than its lead.
func TestLeadIsGreatest(t *testing.T) {
	for _, r := range rings() {
		for _, v := range drawnVectors(r, 3, 12)[1:] {
			at, lead, err := vector.Lead(r, v)
			if err != api.OK {
				continue
			}
			for place, f := range v {
				for _, u := range f {
					order, _ := mono.Order(r, u.E, lead.E)
					if r.Over == api.OverPlace && place != at {
						order = at - place
					}
					if order > 0 || order == 0 && place < at {
						t.Errorf("%v: %v: %v at %d is more than %v at %d", r, v, u, place, lead, at)
					}
				}
			}
		}
	}
}

// D3: sums of products.
func TestCombine(t *testing.T) {
	for _, r := range rings() {
		l := drawnVectors(r, 2, 3)
		for seed := range 5 {
			c := drawn(r, len(l), seed+100)
			sum := make(api.Vector, 2)
			for i, v := range l {
				product, _ := vector.Scale(r, c[i], v)
				sum, _ = vector.Add(r, sum, product)
			}
			got, err := vector.Combine(r, 2, c, l)
			want(t, fmt.Sprint("Combine ", r, c), got, err, sum, api.OK)
		}
	}
	got, err := vector.Combine(plane, 3, nil, nil)
	want(t, "of none", got, err, make(api.Vector, 3), api.OK)
}

// D3: errors of Combine after those of the list, in their order.
func TestCombineErrors(t *testing.T) {
	l := []api.Vector{{one(1, 150, 0), nil}, {nil, one(1, 0, 1)}}
	for _, c := range []struct {
		name string
		c    []api.Poly
		want api.Errno
	}{
		{"none", nil, api.ErrForm},
		{"too few", []api.Poly{wrongState()}, api.ErrForm},
		{"too many", []api.Poly{nil, nil, wrongState()}, api.ErrForm},
		{"first one ahead of the second one", []api.Poly{wrongState(), wrongMany()}, api.ErrState},
		{"second one", []api.Poly{nil, wrongRange()}, api.ErrRange},
		{"second one ahead of the degree", []api.Poly{one(1, 51, 0), wrongState()}, api.ErrState},
		{"degree", []api.Poly{one(1, 51, 0), nil}, api.ErrMany},
		{"greatest degree", []api.Poly{one(1, 50, 0), one(1, 0, 199)}, api.OK},
	} {
		got, err := vector.Combine(plane, 2, c.c, l)
		if c.want == api.OK {
			want(t, c.name, got, err, api.Vector{one(1, 200, 0), one(1, 0, 200)}, api.OK)
		} else {
			want(t, c.name, got, err, nil, c.want)
		}
	}
}

// D3: a product that is too great is told of, though another one would take it away.
func TestCombineProducts(t *testing.T) {
	l := []api.Vector{{one(1, 150, 0)}, {one(6, 150, 0)}}
	got, err := vector.Combine(plane, 1, []api.Poly{one(1, 60, 0), one(1, 60, 0)}, l)
	want(t, "degree of both", got, err, nil, api.ErrMany)
	r := api.Ring{P: 7, N: 3, Order: api.OrderWords, Over: api.OverPlace}
	f, g := sorted(r, 1, upTo(3, 14)), sorted(r, 6, upTo(3, 14))
	got, err = vector.Combine(r, 1, []api.Poly{f, f}, []api.Vector{{f}, {g}})
	want(t, "terms of both", got, err, nil, api.ErrMany)
}

// D3: too many terms of the sum; too many of what is only added up so far are none.
func TestCombineMany(t *testing.T) {
	r := api.Ring{P: 7, N: 3, Order: api.OrderReverse, Over: api.OverMono}
	all := sorted(r, 1, upTo(3, 30))
	minus := sorted(r, 6, upTo(3, 30))
	l := []api.Vector{{nil, all[:2000]}, {nil, all[2000:4000]}, {nil, minus[1000:3000]}}
	ones := slices.Repeat([]api.Poly{one(1, 0, 0, 0)}, 3)
	got, err := vector.Combine(r, 2, ones, l)
	want(t, "4000 terms on the way", got, err, api.Vector{nil, slices.Concat(all[:1000], all[3000:4000])}, api.OK)
	got, err = vector.Combine(r, 2, ones[:2], l[:2])
	want(t, "4000 terms", got, err, nil, api.ErrMany)
	l[2] = api.Vector{nil, minus[1000:2999]}
	got, err = vector.Combine(r, 2, ones, l)
	want(t, "2001 terms", got, err, nil, api.ErrMany)
}

// D4: degrees of vectors, and what may be wrong, in its order.
func TestDegree(t *testing.T) {
	mixed := api.Vector{{term(1, 1, 1), term(1, 0, 1)}, nil}
	shifted := api.Vector{{term(1, 2, 0), term(3, 1, 1)}, nil, one(5, 0, 1)}
	for _, c := range []struct {
		degrees []int
		v       api.Vector
		want    int
		err     api.Errno
	}{
		{[]int{0, 0, 1}, shifted, 2, api.OK},
		{[]int{3, 200, 4}, shifted, 5, api.OK},
		{[]int{0, 0, 0}, shifted, 0, api.ErrState},
		{[]int{0, 0, 2}, shifted, 0, api.ErrState},
		{[]int{0, 0}, mixed, 0, api.ErrState},
		{[]int{200}, api.Vector{one(1, 200, 0)}, 400, api.OK},
		{[]int{0}, api.Vector{one(1, 0, 0)}, 0, api.OK},
		{make([]int, 40), append(make(api.Vector, 39), one(1, 2, 3)), 5, api.OK},
		{nil, mixed, 0, api.ErrForm},
		{[]int{0}, mixed, 0, api.ErrForm},
		{[]int{0, 0, -1}, mixed, 0, api.ErrForm},
		{[]int{0, -1}, mixed, 0, api.ErrRange},
		{[]int{201, 0}, mixed, 0, api.ErrRange},
		{[]int{math.MaxInt, math.MinInt}, mixed, 0, api.ErrRange},
		{[]int{0, 201}, api.Vector{nil, nil}, 0, api.ErrRange},
		{[]int{0}, api.Vector{nil, nil}, 0, api.ErrForm},
		{[]int{0, 200}, api.Vector{nil, {}}, 0, api.ErrNone},
		{[]int{0}, api.Vector{wrongState()}, 0, api.ErrState},
		{[]int{-1, 0}, api.Vector{wrongMany()}, 0, api.ErrMany},
		{nil, api.Vector{}, 0, api.ErrRange},
	} {
		wantDegree(t, plane, c.degrees, c.v, c.want, c.err)
	}
}

// roomy: a vector with spare room behind each of its lists.
func roomy() api.Vector {
	first, second := []int{2, 0, -5}, []int{0, 1, -6}
	f := api.Poly{{C: 1, E: first[:2]}, {C: -8, E: []int{-8}}}
	g := api.Poly{{C: 3, E: second[:2]}, {C: -9, E: []int{-9}}}
	return api.Vector{f[:1], g[:1], one(-7, -7)}[:2]
}

// whole: what stands in the room of a vector.
func whole(v api.Vector) string {
	s := fmt.Sprint(v[:cap(v)])
	for _, f := range v {
		s += fmt.Sprint(f[:cap(f)])
		for _, t := range f {
			s += fmt.Sprint(t.E[:cap(t.E)])
		}
	}
	return s
}

// spoil all that was answered, its room too.
func spoil(v api.Vector) {
	for i, f := range v {
		for k := range f {
			f[k].C = 77
			for n := range f[k].E {
				f[k].E[n] = 88
			}
			_ = append(f[k].E, 99)
		}
		v[i] = append(f, term(99))[:len(f)]
	}
	_ = append(v, one(99))
}

// P2, P3: what is handed in is only read; each answer is new memory, and the same each time.
func TestReadsOnlyAnswersNew(t *testing.T) {
	unit := one(1, 0, 0)
	for name, do := range map[string]func(v api.Vector) (api.Vector, api.Errno){
		"Add nothing":     func(v api.Vector) (api.Vector, api.Errno) { return vector.Add(plane, v, api.Vector{nil, nil}) },
		"Add itself":      func(v api.Vector) (api.Vector, api.Errno) { return vector.Add(plane, v, v) },
		"Scale by 1":      func(v api.Vector) (api.Vector, api.Errno) { return vector.Scale(plane, unit, v) },
		"Scale by itself": func(v api.Vector) (api.Vector, api.Errno) { return vector.Scale(plane, v[0], v) },
		"Combine one": func(v api.Vector) (api.Vector, api.Errno) {
			return vector.Combine(plane, 2, []api.Poly{unit}, []api.Vector{v})
		},
		"Combine two": func(v api.Vector) (api.Vector, api.Errno) {
			return vector.Combine(plane, 2, v, []api.Vector{v, v})
		},
		"Lead": func(v api.Vector) (api.Vector, api.Errno) {
			_, lead, err := vector.Lead(plane, v)
			return api.Vector{{lead}}, err
		},
	} {
		v := roomy()
		before := whole(v)
		first, err := do(v)
		told := fmt.Sprint(first, err)
		spoil(first)
		if after := whole(v); after != before || !reflect.DeepEqual(unit, one(1, 0, 0)) {
			t.Errorf("%s: what was handed in is %s, and was %s", name, after, before)
		}
		second, err := do(v)
		if again := fmt.Sprint(second, err); again != told || err != api.OK {
			t.Errorf("%s: %s, and then %s", name, told, again)
		}
		spoil(v)
		if again := fmt.Sprint(second, err); again != told {
			t.Errorf("%s: kept what was handed in: %s, and then %s", name, told, again)
		}
	}
}

// P2: no two lists of an answer share memory, though what was handed in does.
func TestListsOfAnswerApart(t *testing.T) {
	f := api.Poly{term(1, 1, 0), term(2, 0, 0)}
	unit := one(1, 0, 0)
	sum, _ := vector.Add(plane, api.Vector{f, f}, api.Vector{nil, nil})
	product, _ := vector.Scale(plane, unit, api.Vector{f, f})
	combined, _ := vector.Combine(plane, 2, []api.Poly{unit}, []api.Vector{{f, f}})
	for _, v := range []api.Vector{sum, product, combined} {
		spoil(v[:1:1])
		if !same(v[1:], api.Vector{f}) {
			t.Errorf("%v, must be %v", v[1], f)
		}
	}
}

// P2: what is only asked for is not changed either.
func TestAskingReadsOnly(t *testing.T) {
	v, degrees := roomy(), []int{0, 1, -7}
	before := whole(v)
	vector.Check(plane, 2, []api.Vector{v})
	vector.Degree(plane, degrees[:2], v)
	if after := whole(v); after != before || !slices.Equal(degrees, []int{0, 1, -7}) {
		t.Errorf("%s %v, and was %s", after, degrees, before)
	}
}

func Example() {
	r := api.Ring{P: 7, N: 2, Order: api.OrderReverse, Over: api.OverMono}
	x, y := api.Poly{{C: 1, E: []int{1, 0}}}, api.Poly{{C: 1, E: []int{0, 1}}}
	place, lead, _ := vector.Lead(r, api.Vector{nil, x})
	sum, _ := vector.Combine(r, 2, []api.Poly{y, x}, []api.Vector{{x, nil}, {y, x}})
	degree, _ := vector.Degree(r, []int{1, 1}, sum)
	fmt.Println(place, lead, sum, degree)
	// Output: 1 {1 [1 0]} [[{2 [1 1]}] [{1 [2 0]}]] 3
}
