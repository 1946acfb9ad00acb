package divide_test

import (
	"fmt"
	"math"
	"slices"
	"testing"

	"syzygist/api"
	"syzygist/divide"
	"syzygist/field"
	"syzygist/mono"
	"syzygist/vector"
)

var plane = api.Ring{P: 7, N: 2, Order: api.OrderReverse, Over: api.OverMono}

func term(c int, e ...int) api.Term { return api.Term{C: c, E: e} }

// one term alone.
func one(c int, e ...int) api.Poly { return api.Poly{term(c, e...)} }

// Wrong polynomials, each with an error of its own.
func wrongForm() api.Poly  { return one(1, 1) }
func wrongRange() api.Poly { return one(0, 1, 0) }
func wrongState() api.Poly { return api.Poly{term(1, 0, 1), term(1, 1, 0)} }
func wrongMany() api.Poly  { return make(api.Poly, 2001) }

func over(r api.Ring, order, over int) api.Ring {
	r.Order, r.Over = order, over
	return r
}

// rings of each count of variables, in both orders, over both.
func rings() []api.Ring {
	var l []api.Ring
	for _, r := range []api.Ring{{P: 2, N: 3}, {P: 7, N: 2}, {P: 101, N: 1}} {
		for _, order := range []int{api.OrderReverse, api.OrderWords} {
			l = append(l, over(r, order, api.OverMono), over(r, order, api.OverPlace))
		}
	}
	return l
}

// upTo: all monomials of n variables of at most a degree.
func upTo(n, degree int) [][]int {
	if n == 0 {
		return [][]int{{}}
	}
	var l [][]int
	for x := range degree + 1 {
		for _, rest := range upTo(n-1, degree-x) {
			l = append(l, append([]int{x}, rest...))
		}
	}
	return l
}

// sorted: the polynomial of a coefficient and monomials that differ.
func sorted(r api.Ring, c int, l [][]int) api.Poly {
	var f api.Poly
	for _, e := range l {
		f = append(f, term(c, e...))
	}
	slices.SortFunc(f, func(s, t api.Term) int { k, _ := mono.Order(r, t.E, s.E); return k })
	return f
}

// drawn: some vectors of at most a degree, the same ones each time.
func drawn(r api.Ring, rank, count, degree, seed int) []api.Vector {
	state := uint32(seed)
	next := func(n int) int {
		state = state*1664525 + 1013904223
		return int(state>>16) % n
	}
	l := make([]api.Vector, count)
	for i := range l {
		l[i] = make(api.Vector, rank)
		for place := range rank {
			for _, t := range sorted(r, 1, upTo(r.N, degree)) {
				if next(4) == 0 {
					l[i][place] = append(l[i][place], term(1+next(r.P-1), t.E...))
				}
			}
		}
	}
	return l
}

func want(t *testing.T, what string, q []api.Poly, left api.Vector, err api.Errno, wantQ []api.Poly, wantLeft api.Vector, wantErr api.Errno) {
	t.Helper()
	got, wanted := fmt.Sprint(q, left, err), fmt.Sprint(wantQ, wantLeft, wantErr)
	if got != wanted || wantErr != api.OK && (q != nil || left != nil) {
		t.Errorf("%s: %s, must be %s", what, got, wanted)
	}
}

func wantNormal(t *testing.T, r api.Ring, rank int, v api.Vector, l []api.Vector, wanted bool, wantErr api.Errno) {
	t.Helper()
	if got, err := divide.Normal(r, rank, v, l); got != wanted || err != wantErr {
		t.Errorf("Normal(%v, %d, %v, %v): %v %d, must be %v %d", r, rank, v, l, got, err, wanted, wantErr)
	}
}

// wantError of both calls.
func wantError(t *testing.T, what string, r api.Ring, rank int, v api.Vector, l []api.Vector, wanted api.Errno) {
	t.Helper()
	q, left, err := divide.Divide(r, rank, v, l)
	want(t, what, q, left, err, nil, nil, wanted)
	if normal, err := divide.Normal(r, rank, v, l); normal || err != wanted {
		t.Errorf("%s: Normal: %v %d, must be false %d", what, normal, err, wanted)
	}
}

// E1, E2, P1: what is wrong with the ring, the rank, the list and then the vector, in this order.
func TestErrors(t *testing.T) {
	right := api.Vector{one(1, 1, 0), nil}
	for _, c := range []struct {
		name string
		r    api.Ring
		rank int
		v    api.Vector
		l    []api.Vector
		want api.Errno
	}{
		{"no ring", api.Ring{}, 0, nil, nil, api.ErrRange},
		{"no prime", api.Ring{P: 9, N: 2, Order: 1, Over: 1}, 0, nil, make([]api.Vector, 61), api.ErrState},
		{"too many variables", api.Ring{P: 7, N: 4, Order: 1, Over: 1}, 2, right, nil, api.ErrRange},
		{"no such order", api.Ring{P: 7, N: 2, Order: 3, Over: 1}, 0, right, nil, api.ErrKind},
		{"no such over", api.Ring{P: 7, N: 2, Order: 1, Over: 0}, 0, right, nil, api.ErrKind},
		{"rank 0", plane, 0, api.Vector{}, make([]api.Vector, 61), api.ErrRange},
		{"rank below 0", plane, math.MinInt, nil, nil, api.ErrRange},
		{"rank 41", plane, 41, make(api.Vector, 41), nil, api.ErrRange},
		{"too many of the list", plane, 2, nil, make([]api.Vector, 61), api.ErrMany},
		{"form of the list ahead of the vector", plane, 2, api.Vector{wrongMany(), nil}, []api.Vector{right, {nil}}, api.ErrForm},
		{"state of the list ahead of the vector", plane, 2, api.Vector{nil}, []api.Vector{{nil, wrongState()}}, api.ErrState},
		{"first of the list ahead of the second", plane, 2, right, []api.Vector{{wrongRange(), nil}, {nil}}, api.ErrRange},
		{"too many terms in the list", plane, 2, api.Vector{nil}, []api.Vector{{nil, wrongMany()}}, api.ErrMany},
		{"no vector", plane, 1, nil, nil, api.ErrForm},
		{"too few polynomials", plane, 2, api.Vector{wrongState()}, nil, api.ErrForm},
		{"too many polynomials", plane, 2, api.Vector{nil, nil, nil}, []api.Vector{right}, api.ErrForm},
		{"monomial of the vector", plane, 2, api.Vector{nil, wrongForm()}, []api.Vector{right}, api.ErrForm},
		{"coefficient of the vector", plane, 2, api.Vector{wrongRange(), wrongState()}, []api.Vector{right}, api.ErrRange},
		{"state of the vector", plane, 2, api.Vector{wrongState(), wrongMany()}, []api.Vector{right}, api.ErrState},
		{"too many terms in the vector", plane, 2, api.Vector{nil, wrongMany()}, nil, api.ErrMany},
	} {
		wantError(t, c.name, c.r, c.rank, c.v, c.l, c.want)
	}
}

// E1: which one counts, what it goes by, and what is left.
func TestDivide(t *testing.T) {
	x, y := one(1, 1, 0), one(1, 0, 1)
	place := over(plane, api.OrderReverse, api.OverPlace)
	two := api.Poly{term(3, 1, 1), term(1, 0, 1)}
	for _, c := range []struct {
		name  string
		r     api.Ring
		v     api.Vector
		l     []api.Vector
		wantQ []api.Poly
		left  api.Vector
	}{
		{"the document's example", plane, api.Vector{two}, []api.Vector{{x}}, []api.Poly{one(3, 0, 1)}, api.Vector{one(1, 0, 1)}},
		{"by none", plane, api.Vector{two}, nil, nil, api.Vector{two}},
		{"nothing", plane, api.Vector{nil}, []api.Vector{{x}, {y}}, []api.Poly{nil, nil}, api.Vector{nil}},
		{"by those without terms", plane, api.Vector{two}, []api.Vector{{nil}, {{}}, {x}, {nil}}, []api.Poly{nil, nil, one(3, 0, 1), nil}, api.Vector{one(1, 0, 1)}},
		{"the first one counts", plane, api.Vector{two}, []api.Vector{{y}, {x}}, []api.Poly{{term(3, 1, 0), term(1, 0, 0)}, nil}, api.Vector{nil}},
		{"the first one counts, turned round", plane, api.Vector{two}, []api.Vector{{x}, {y}}, []api.Poly{one(3, 0, 1), one(1, 0, 0)}, api.Vector{nil}},
		{"by a coefficient", plane, api.Vector{two}, []api.Vector{{one(2, 1, 0)}}, []api.Poly{one(5, 0, 1)}, api.Vector{one(1, 0, 1)}},
		{"what is taken away brings more", plane, api.Vector{one(1, 2, 0)}, []api.Vector{{{term(1, 1, 0), term(6, 0, 1)}}}, []api.Poly{{term(1, 1, 0), term(1, 0, 1)}}, api.Vector{one(1, 0, 2)}},
		{"a Lead that does not go into its own", plane, api.Vector{{term(1, 2, 0), term(1, 0, 1)}}, []api.Vector{{one(1, 1, 1)}, {y}}, []api.Poly{nil, one(1, 0, 0)}, api.Vector{one(1, 2, 0)}},
		{"only at its place", plane, api.Vector{two, two}, []api.Vector{{nil, x}}, []api.Poly{one(3, 0, 1)}, api.Vector{two, one(1, 0, 1)}},
		{"the Lead by the monomial", plane, api.Vector{one(1, 1, 1), one(1, 0, 2)}, []api.Vector{{y, x}}, []api.Poly{nil}, api.Vector{one(1, 1, 1), one(1, 0, 2)}},
		{"the Lead by the place", place, api.Vector{one(1, 1, 1), one(1, 0, 2)}, []api.Vector{{y, x}}, []api.Poly{one(1, 1, 0)}, api.Vector{nil, {term(6, 2, 0), term(1, 0, 2)}}},
	} {
		q, left, err := divide.Divide(c.r, len(c.v), c.v, c.l)
		want(t, c.name, q, left, err, c.wantQ, c.left, api.OK)
	}
}

// stepwise: E1 to its words, by the calls of the layers ahead.
func stepwise(r api.Ring, rank int, v api.Vector, l []api.Vector) ([]api.Poly, api.Vector) {
	quotients, left := make([]api.Poly, len(l)), make(api.Vector, rank)
	for {
		place, lead, err := vector.Lead(r, v)
		if err != api.OK {
			return quotients, left
		}
		i, by := goesInto(r, place, lead, l)
		if i < 0 {
			left[place] = append(left[place], lead)
			v[place] = v[place][1:]
			continue
		}
		quotients[i] = append(quotients[i], by)
		taken, _ := vector.Scale(r, api.Poly{{C: r.P - by.C, E: by.E}}, l[i])
		v, _ = vector.Add(r, v, taken)
	}
}

// goesInto: the first one of a list whose Lead goes into a term, and by what; or -1.
func goesInto(r api.Ring, place int, t api.Term, l []api.Vector) (int, api.Term) {
	for i, v := range l {
		at, lead, err := vector.Lead(r, v)
		if err != api.OK || at != place {
			continue
		}
		if e, err := mono.Over(r, t.E, lead.E); err == api.OK {
			inverse, _ := field.Inverse(r.P, lead.C)
			return i, api.Term{C: inverse * t.C % r.P, E: e}
		}
	}
	return -1, api.Term{}
}

// E1: of whatever vectors, in all rings: just what its words say.
func TestStepwise(t *testing.T) {
	for _, r := range rings() {
		for rank := 1; rank <= 3; rank++ {
			for seed := range 12 {
				l := drawn(r, rank, seed%5, 2, seed)
				v := drawn(r, rank, 1, 4, seed+100)[0]
				q, left, err := divide.Divide(r, rank, v, l)
				wantQ, wantLeft := stepwise(r, rank, slices.Clone(v), l)
				want(t, fmt.Sprint(r, v, l), q, left, err, wantQ, wantLeft, api.OK)
			}
		}
	}
}

// E3: the vector is the sum of the quotients times the list's, and what is left; that is Normal; no product has a greater Lead.
func TestSum(t *testing.T) {
	for _, r := range rings() {
		for rank := 1; rank <= 3; rank++ {
			for seed := range 12 {
				l := drawn(r, rank, 3, 2, seed)
				v := drawn(r, rank, 1, 4, seed+200)[0]
				q, left, _ := divide.Divide(r, rank, v, l)
				sum, _ := vector.Combine(r, rank, q, l)
				if sum, _ = vector.Add(r, sum, left); fmt.Sprint(sum) != fmt.Sprint(v) {
					t.Errorf("%v: %v by %v: the sum is %v", r, v, l, sum)
				}
				wantNormal(t, r, rank, left, l, true, api.OK)
				for i := range l {
					if product, _ := vector.Scale(r, q[i], l[i]); leadIsMore(r, product, v) {
						t.Errorf("%v: %v by %v: the Lead of %v is more", r, v, l, product)
					}
				}
			}
		}
	}
}

// leadIsMore: has v a Lead that is more than that of w?
func leadIsMore(r api.Ring, v, w api.Vector) bool {
	at, lead, err := vector.Lead(r, v)
	if err != api.OK {
		return false
	}
	other, least, err := vector.Lead(r, w)
	if err != api.OK {
		return true
	}
	if r.Over == api.OverPlace && at != other {
		return at < other
	}
	order, _ := mono.Order(r, lead.E, least.E)
	return order > 0 || order == 0 && at < other
}

// E1: too great a degree, and too great only on the way.
func TestDegrees(t *testing.T) {
	r := over(plane, api.OrderReverse, api.OverPlace)
	up := api.Vector{one(1, 1, 0), one(6, 0, 190)}
	v := api.Vector{one(1, 100, 0), nil}
	q, left, err := divide.Divide(r, 2, v, []api.Vector{up})
	want(t, "what is left", q, left, err, nil, nil, api.ErrMany)
	q, left, err = divide.Divide(r, 2, v, []api.Vector{up, {nil, one(1, 99, 90)}})
	want(t, "on the way", q, left, err, []api.Poly{one(1, 99, 0), one(1, 0, 100)}, make(api.Vector, 2), api.OK)
	q, left, err = divide.Divide(r, 2, v, []api.Vector{up, {nil, one(1, 1, 0)}})
	want(t, "a quotient", q, left, err, nil, nil, api.ErrMany)
	q, left, err = divide.Divide(r, 2, v, []api.Vector{{one(1, 1, 0), one(6, 0, 101)}})
	want(t, "greatest degree", q, left, err, []api.Poly{one(1, 99, 0)}, api.Vector{nil, one(1, 99, 101)}, api.OK)
	q, left, err = divide.Divide(r, 2, v, []api.Vector{up, {nil, one(1, 89, 0)}, {nil, one(1, 0, 1)}})
	want(t, "greatest degree of a quotient", q, left, err, []api.Poly{one(1, 99, 0), one(1, 10, 190), nil}, make(api.Vector, 2), api.OK)
	q, left, err = divide.Divide(r, 2, v, []api.Vector{up, {nil, one(1, 88, 0)}})
	want(t, "just over it", q, left, err, nil, nil, api.ErrMany)
}

// E1: too many terms of what is left, and of a quotient, and too many only on the way.
func TestTerms(t *testing.T) {
	r := api.Ring{P: 7, N: 3, Order: api.OrderReverse, Over: api.OverPlace}
	all, minus := sorted(r, 1, upTo(3, 25)), sorted(r, 6, upTo(3, 25))
	unit := one(1, 0, 0, 0)
	q, left, err := divide.Divide(r, 2, api.Vector{unit, all[2000:2001]}, []api.Vector{{unit, minus[:2000]}})
	want(t, "2001 left", q, left, err, nil, nil, api.ErrMany)
	q, left, err = divide.Divide(r, 2, api.Vector{unit, all[1999:2000]}, []api.Vector{{unit, minus[:1999]}})
	want(t, "2000 left", q, left, err, []api.Poly{unit}, api.Vector{nil, all[:2000]}, api.OK)
	q, left, err = divide.Divide(r, 2, api.Vector{unit, all[2000:2001]}, []api.Vector{{unit, minus[:2000]}, {nil, unit}})
	want(t, "2001 of a quotient", q, left, err, nil, nil, api.ErrMany)
	q, left, err = divide.Divide(r, 2, api.Vector{unit, all[1999:2000]}, []api.Vector{{unit, minus[:1999]}, {nil, unit}})
	want(t, "2000 of a quotient", q, left, err, []api.Poly{unit, all[:2000]}, make(api.Vector, 2), api.OK)
	q, left, err = divide.Divide(r, 2, api.Vector{unit, all[2000:3000]}, []api.Vector{{unit, minus[:2000]}, {nil, all[:2000]}})
	want(t, "3000 on the way", q, left, err, []api.Poly{unit, unit}, api.Vector{nil, all[2000:3000]}, api.OK)
}

// E1: as many places and as many vectors as may be.
func TestWidest(t *testing.T) {
	for _, r := range []api.Ring{plane, over(plane, api.OrderWords, api.OverPlace)} {
		v, l := make(api.Vector, 40), make([]api.Vector, 60)
		quotients := make([]api.Poly, 60)
		for i := range l {
			l[i] = make(api.Vector, 40)
			if i < 40 {
				v[i], l[i][i], quotients[i] = one(1, 1, 200-i-1), one(2, 1, 0), one(4, 0, 200-i-1)
			}
		}
		q, left, err := divide.Divide(r, 40, v, l)
		want(t, fmt.Sprint(r), q, left, err, quotients, make(api.Vector, 40), api.OK)
	}
}

// E2: whatever term it is, at its place.
func TestNormal(t *testing.T) {
	x, y := one(1, 1, 0), one(1, 0, 1)
	both := api.Poly{term(1, 2, 0), term(1, 0, 1)}
	for _, c := range []struct {
		v    api.Vector
		l    []api.Vector
		want bool
	}{
		{api.Vector{both}, nil, true},
		{api.Vector{nil}, []api.Vector{{x}}, true},
		{api.Vector{both}, []api.Vector{{nil}}, true},
		{api.Vector{both}, []api.Vector{{x}}, false},
		{api.Vector{both}, []api.Vector{{y}}, false},
		{api.Vector{both}, []api.Vector{{one(1, 0, 2)}, {one(1, 1, 1)}}, true},
		{api.Vector{both}, []api.Vector{{one(1, 0, 2)}, {one(3, 0, 0)}}, false},
		{api.Vector{both, nil}, []api.Vector{{nil, x}, {nil, y}}, true},
		{api.Vector{nil, both}, []api.Vector{{nil, one(1, 0, 2)}, {x, y}}, true},
		{api.Vector{nil, both}, []api.Vector{{x, one(1, 0, 2)}, {nil, y}}, false},
		// Only the Lead counts: y stands behind x^2.
		{api.Vector{y}, []api.Vector{{both}}, true},
	} {
		wantNormal(t, plane, len(c.v), c.v, c.l, c.want, api.OK)
	}
	lead := []api.Vector{{one(1, 0, 0), x}}
	v := api.Vector{nil, one(1, 1, 1)}
	wantNormal(t, plane, 2, v, lead, false, api.OK)
	wantNormal(t, over(plane, api.OrderReverse, api.OverPlace), 2, v, lead, true, api.OK)
}

// E2: Normal just if Divide leaves all of it.
func TestNormalIsLeft(t *testing.T) {
	for _, r := range rings() {
		for seed := range 40 {
			l := drawn(r, 2, 2, 3, seed)
			v := drawn(r, 2, 1, 2, seed+300)[0]
			_, left, _ := divide.Divide(r, 2, v, l)
			wantNormal(t, r, 2, v, l, fmt.Sprint(left) == fmt.Sprint(v), api.OK)
		}
	}
}

// roomy: a vector with spare room behind each of its lists.
func roomy() api.Vector {
	first, second := []int{2, 1, -5}, []int{0, 1, -6}
	f := api.Poly{{C: 1, E: first[:2]}, {C: 3, E: second[:2]}, {C: -8, E: []int{-8}}}
	return api.Vector{f[:2], one(-7, -7)}[:1]
}

// whole: what stands in the room of a vector.
func whole(v api.Vector) string {
	s := fmt.Sprint(v[:cap(v)])
	for _, f := range v {
		s += fmt.Sprint(f[:cap(f)])
		for _, t := range f {
			s += fmt.Sprint(t.E[:cap(t.E)])
		}
	}
	return s
}

// spoil all of a vector, its room too.
func spoil(v api.Vector) {
	for i, f := range v {
		for k := range f {
			f[k].C = 77
			for n := range f[k].E {
				f[k].E[n] = 88
			}
			_ = append(f[k].E, 99)
		}
		v[i] = append(f, term(99))[:len(f)]
	}
	_ = append(v, one(99))
}

// P2, P3: what is handed in is only read; what is answered is new memory, each list of it by itself, and the same each time.
func TestReadsOnlyAnswersNew(t *testing.T) {
	for _, divisor := range []api.Vector{{one(1, 1, 0)}, {one(1, 0, 2)}, roomy()} {
		v, l := roomy(), []api.Vector{divisor, roomy(), {nil}}
		before := whole(v) + whole(l[0]) + whole(l[1])
		q, left, err := divide.Divide(plane, 1, v, l[:2])
		told := fmt.Sprint(q, left, err)
		normal, _ := divide.Normal(plane, 1, v, l[:2])
		toldLeft := fmt.Sprint(left)
		spoil(api.Vector(q))
		if fmt.Sprint(left) != toldLeft {
			t.Errorf("quotients and what is left share memory: %v", left)
		}
		spoil(left)
		if after := whole(v) + whole(l[0]) + whole(l[1]); after != before || len(l[2]) != 1 {
			t.Errorf("what was handed in is %s, and was %s", after, before)
		}
		q, left, err = divide.Divide(plane, 1, v, l[:2])
		if again := fmt.Sprint(q, left, err); again != told {
			t.Errorf("%s, and then %s", told, again)
		}
		spoil(v)
		spoil(l[0])
		if again := fmt.Sprint(q, left, err); again != told {
			t.Errorf("kept what was handed in: %s, and then %s", told, again)
		}
		if normal {
			t.Error("x^2*y is not Normal by itself")
		}
	}
}

// P2: no two quotients, nor two polynomials of what is left, share memory, though what was handed in does.
func TestListsOfAnswerApart(t *testing.T) {
	f := api.Poly{term(1, 1, 0), term(2, 0, 0)}
	q, left, _ := divide.Divide(plane, 2, api.Vector{f, f}, []api.Vector{{one(1, 1, 0), nil}, {nil, one(1, 1, 0)}})
	spoil(left[:1:1])
	spoil(api.Vector(q[:1:1]))
	want(t, "the others", q[1:], left[1:], api.OK, []api.Poly{one(1, 0, 0)}, api.Vector{one(2, 0, 0)}, api.OK)
}

func Example() {
	r := api.Ring{P: 7, N: 2, Order: api.OrderReverse, Over: api.OverMono}
	v := api.Vector{{{C: 3, E: []int{1, 1}}, {C: 1, E: []int{0, 1}}}}
	x := api.Vector{{{C: 1, E: []int{1, 0}}}}
	quotients, left, err := divide.Divide(r, 1, v, []api.Vector{x})
	normal, _ := divide.Normal(r, 1, left, []api.Vector{x})
	fmt.Println(quotients, left, err, normal)
	// Output: [[{3 [0 1]}]] [[{1 [0 1]}]] 0 true
}
