package poly_test

import (
	"fmt"
	"math"
	"reflect"
	"slices"
	"testing"

	"syzygist/api"
	"syzygist/mono"
	"syzygist/poly"
)

var (
	plane = api.Ring{P: 7, N: 2, Order: api.OrderReverse, Over: api.OverMono}
	space = api.Ring{P: 101, N: 3, Order: api.OrderReverse, Over: api.OverMono}
)

func term(c int, e ...int) api.Term { return api.Term{C: c, E: e} }

// rings of each count of variables, in both orders, over both, of three primes.
func rings() []api.Ring {
	var l []api.Ring
	for _, p := range []int{2, 7, 101} {
		for n := 1; n <= api.MaxVars; n++ {
			for _, order := range []int{api.OrderReverse, api.OrderWords} {
				for _, over := range []int{api.OverMono, api.OverPlace} {
					l = append(l, api.Ring{P: p, N: n, Order: order, Over: over})
				}
			}
		}
	}
	return l
}

// wrongRings, and what is told of each.
func wrongRings() map[api.Ring]api.Errno {
	return map[api.Ring]api.Errno{
		{}:                               api.ErrRange,
		{P: 102, N: 2}:                   api.ErrRange,
		{P: 9, N: 9}:                     api.ErrState,
		{P: 7, N: 4}:                     api.ErrRange,
		{P: 7, N: 2, Order: 3, Over: 1}:  api.ErrKind,
		{P: 7, N: 2, Order: 1, Over: -1}: api.ErrKind,
	}
}

// upTo: all monomials of n variables of at most a degree.
func upTo(n, degree int) [][]int {
	if n == 0 {
		return [][]int{{}}
	}
	var l [][]int
	for x := range degree + 1 {
		for _, rest := range upTo(n-1, degree-x) {
			l = append(l, append([]int{x}, rest...))
		}
	}
	return l
}

// sorted: the polynomial of a coefficient and monomials that differ.
func sorted(r api.Ring, c int, l [][]int) api.Poly {
	var f api.Poly
	for _, e := range l {
		f = append(f, term(c, e...))
	}
	slices.SortFunc(f, func(s, t api.Term) int { k, _ := mono.Order(r, t.E, s.E); return k })
	return f
}

// drawn: some polynomials with small degrees, the same ones each time.
func drawn(r api.Ring, count int) []api.Poly {
	state := uint32(r.P + 10*r.N)
	next := func(n int) int {
		state = state*1664525 + 1013904223
		return int(state>>16) % n
	}
	var l []api.Poly
	for range count {
		var chosen api.Poly
		for _, t := range sorted(r, 1, upTo(r.N, 3)) {
			if next(3) == 0 {
				chosen = append(chosen, term(1+next(r.P-1), t.E...))
			}
		}
		l = append(l, chosen)
	}
	return append(l, nil)
}

type key [api.MaxVars]int

// naive: the sum of terms, each coefficient by itself.
func naive(r api.Ring, terms []api.Term) map[key]int {
	sums := map[key]int{}
	for _, t := range terms {
		var k key
		copy(k[:], t.E)
		sums[k] = (sums[k] + t.C) % r.P
		if sums[k] == 0 {
			delete(sums, k)
		}
	}
	return sums
}

func allProducts(f, g api.Poly) []api.Term {
	var l []api.Term
	for _, s := range f {
		for _, t := range g {
			e := make([]int, len(s.E))
			for i := range e {
				e[i] = s.E[i] + t.E[i]
			}
			l = append(l, term(s.C*t.C, e...))
		}
	}
	return l
}

func same(f, g api.Poly) bool {
	return len(f) == 0 && len(g) == 0 || reflect.DeepEqual(f, g)
}

func want(t *testing.T, what string, got api.Poly, err api.Errno, wanted api.Poly, wantErr api.Errno) {
	t.Helper()
	if !same(got, wanted) || err != wantErr || wantErr != api.OK && got != nil {
		t.Errorf("%s: %v %d, must be %v %d", what, got, err, wanted, wantErr)
	}
}

// wantTerms: a right polynomial of these terms.
func wantTerms(t *testing.T, r api.Ring, what string, got api.Poly, err api.Errno, terms []api.Term) {
	t.Helper()
	if e := poly.Check(r, got); e != api.OK || err != api.OK {
		t.Errorf("%s: %d, and Check of %v: %d", what, err, got, e)
	}
	if wanted := naive(r, terms); !reflect.DeepEqual(naive(r, got), wanted) {
		t.Errorf("%s: %v, must be %v", what, got, wanted)
	}
}

// wantError of all calls of one polynomial or two, each with nothing else.
func wantError(t *testing.T, r api.Ring, f, g api.Poly, wanted api.Errno) {
	t.Helper()
	what := fmt.Sprint(" ", r, len(f), len(g))
	got, err := poly.Add(r, f, g)
	want(t, "Add"+what, got, err, nil, wanted)
	got, err = poly.Mul(r, f, g)
	want(t, "Mul"+what, got, err, nil, wanted)
}

func wantErrorOfOne(t *testing.T, r api.Ring, f api.Poly, wanted api.Errno) {
	t.Helper()
	what := fmt.Sprint(" ", r, len(f))
	if got := poly.Check(r, f); got != wanted {
		t.Errorf("Check%s: %d, must be %d", what, got, wanted)
	}
	if s, err := poly.Print(r, f); s != "" || err != wanted {
		t.Errorf("Print%s: %q %d, must be %d", what, s, err, wanted)
	}
	for _, at := range [][]int{nil, {0, 0}, {-1, 0}, {0, 0, 0, 0}} {
		if n, err := poly.Value(r, f, at); n != 0 || err != wanted {
			t.Errorf("Value%s at %v: %d %d, must be %d", what, at, n, err, wanted)
		}
	}
	wantError(t, r, f, nil, wanted)
	wantError(t, r, nil, f, wanted)
	wantError(t, r, f, f, wanted)
}

// C1: the ring's errors come first, of all calls.
func TestRingFirst(t *testing.T) {
	for r, wanted := range wrongRings() {
		for _, f := range []api.Poly{nil, {term(0, 1)}, make(api.Poly, 2001)} {
			wantErrorOfOne(t, r, f, wanted)
			got, err := poly.Of(r, f)
			want(t, fmt.Sprint("Of ", r), got, err, nil, wanted)
		}
	}
}

// C1: wrong polynomials, told by all calls but Of.
func TestCheckErrors(t *testing.T) {
	for _, c := range []struct {
		name string
		f    api.Poly
		want api.Errno
	}{
		{"coefficient 0", api.Poly{term(0, 1, 0)}, api.ErrRange},
		{"coefficient P", api.Poly{term(7, 1, 0)}, api.ErrRange},
		{"coefficient below 0", api.Poly{term(-1, 1, 0)}, api.ErrRange},
		{"greatest coefficient", api.Poly{term(math.MaxInt, 1, 0)}, api.ErrRange},
		{"least coefficient", api.Poly{term(math.MinInt, 1, 0)}, api.ErrRange},
		{"no exponents", api.Poly{term(1)}, api.ErrForm},
		{"too few exponents", api.Poly{term(1, 1)}, api.ErrForm},
		{"too many exponents", api.Poly{term(1, 1, 0, 0)}, api.ErrForm},
		{"exponent below 0", api.Poly{term(1, 1, -1)}, api.ErrRange},
		{"degree over the limit", api.Poly{term(1, 100, 101)}, api.ErrRange},
		{"exponents that wrap round", api.Poly{term(1, math.MaxInt, math.MaxInt)}, api.ErrRange},
		{"rising", api.Poly{term(1, 0, 1), term(1, 1, 0)}, api.ErrState},
		{"twice the same", api.Poly{term(1, 1, 0), term(2, 1, 0)}, api.ErrState},
		{"rising at the end", api.Poly{term(1, 2, 0), term(1, 0, 0), term(1, 0, 1)}, api.ErrState},
		{"coefficient ahead of its exponents", api.Poly{term(0, 1)}, api.ErrRange},
		{"exponents of the first one, coefficient of the second", api.Poly{term(1, 1), term(0, 0, 0)}, api.ErrForm},
		{"coefficient of the first one, exponents of the second", api.Poly{term(7, 1, 0), term(1, 1)}, api.ErrRange},
		{"rising, then a coefficient of 0", api.Poly{term(1, 0, 1), term(1, 1, 0), term(0, 0, 0)}, api.ErrState},
		{"rising, then a coefficient of P", api.Poly{term(1, 0, 1), term(1, 1, 0), term(7, 0, 0)}, api.ErrState},
		{"rising, then too few exponents", api.Poly{term(1, 0, 1), term(1, 1, 0), term(1, 0)}, api.ErrState},
		{"rising, then an exponent below 0", api.Poly{term(1, 0, 1), term(1, 1, 0), term(1, 0, -1)}, api.ErrState},
		{"rising, then a degree over the limit", api.Poly{term(1, 0, 1), term(1, 1, 0), term(1, 201, 0)}, api.ErrState},
		{"twice the same, then a wrong coefficient", api.Poly{term(1, 1, 0), term(2, 1, 0), term(0, 0, 0)}, api.ErrState},
		{"rising, and right again at the end", api.Poly{term(1, 0, 1), term(1, 1, 0), term(1, 0, 0)}, api.ErrState},
		{"a wrong coefficient, then rising", api.Poly{term(1, 0, 1), term(0, 0, 0), term(1, 1, 0)}, api.ErrRange},
		{"wrong exponents, then rising", api.Poly{term(1, 0, 1), term(1, 0), term(1, 1, 0)}, api.ErrForm},
		{"wrong coefficient of what rises", api.Poly{term(1, 0, 1), term(7, 1, 0), term(1, 1)}, api.ErrRange},
		{"wrong exponents of what rises", api.Poly{term(1, 0, 1), term(1, 1, 0, 0), term(0, 0, 0)}, api.ErrForm},
		{"too great a degree of what rises", api.Poly{term(1, 0, 1), term(1, 201, 0), term(1, 1)}, api.ErrRange},
		{"how many ahead of what rises", slices.Repeat(api.Poly{term(1, 1, 0)}, 2001), api.ErrMany},
		{"too many terms", make(api.Poly, 2001), api.ErrMany},
	} {
		t.Run(c.name, func(t *testing.T) { wantErrorOfOne(t, plane, c.f, c.want) })
	}
}

// C1: right polynomials: without terms, of the greatest degree, with as many terms as may be.
func TestCheckRight(t *testing.T) {
	most := sorted(space, 100, upTo(3, 25))[:2000]
	for _, f := range []api.Poly{nil, {}, {term(1, 0, 0, 0)}, {term(100, 0, 200, 0)}, {term(1, 66, 67, 67), term(5, 0, 0, 200)}, most} {
		if err := poly.Check(space, f); err != api.OK {
			t.Errorf("%d terms: %d", len(f), err)
		}
	}
	if err := poly.Check(space, sorted(space, 100, upTo(3, 25))[:2001]); err != api.ErrMany {
		t.Errorf("2001 terms: %d", err)
	}
}

// C1: terms fall by the ring's own order.
func TestCheckOrder(t *testing.T) {
	words := space
	words.Order = api.OrderWords
	f := api.Poly{term(1, 0, 2, 0), term(1, 1, 0, 1)}
	g := api.Poly{f[1], f[0]}
	for _, c := range []struct {
		r    api.Ring
		f    api.Poly
		want api.Errno
	}{{space, f, api.OK}, {space, g, api.ErrState}, {words, f, api.ErrState}, {words, g, api.OK}} {
		if err := poly.Check(c.r, c.f); err != c.want {
			t.Errorf("%v of %v: %d, must be %d", c.f, c.r, err, c.want)
		}
	}
}

// C1, P1: all that is wrong with f comes ahead of what is wrong with g, and both ahead of what is too great.
func TestFirstOfTwo(t *testing.T) {
	rising := api.Poly{term(1, 0, 1), term(1, 1, 0)}
	wantError(t, plane, rising, make(api.Poly, 2001), api.ErrState)
	wantError(t, plane, make(api.Poly, 2001), rising, api.ErrMany)
	wantError(t, plane, append(rising, term(0, 0, 0)), make(api.Poly, 2001), api.ErrState)
	wantError(t, plane, api.Poly{term(1, 1)}, api.Poly{term(0, 1, 0)}, api.ErrForm)
	wantError(t, plane, api.Poly{term(0, 1, 0)}, api.Poly{term(1, 1)}, api.ErrRange)
	wantError(t, plane, api.Poly{term(1, 200, 0)}, api.Poly{term(1, 201, 0)}, api.ErrRange)
}

// C2: what terms make, in whatever order.
func TestOf(t *testing.T) {
	words := space
	words.Order = api.OrderWords
	for _, c := range []struct {
		r    api.Ring
		l    []api.Term
		want api.Poly
	}{
		{plane, nil, nil},
		{plane, []api.Term{}, nil},
		{plane, []api.Term{term(0, 1, 1), term(0, 0, 200)}, nil},
		{plane, []api.Term{term(3, 1, 0), term(4, 1, 0)}, nil},
		{plane, []api.Term{term(6, 1, 0), term(6, 1, 0)}, api.Poly{term(5, 1, 0)}},
		{plane, []api.Term{term(1, 0, 1), term(1, 2, 0), term(6, 0, 1), term(2, 0, 1)}, api.Poly{term(1, 2, 0), term(2, 0, 1)}},
		{plane, []api.Term{term(1, 0, 0), term(0, 0, 0), term(2, 0, 200)}, api.Poly{term(2, 0, 200), term(1, 0, 0)}},
		{space, []api.Term{term(1, 1, 0, 1), term(2, 0, 2, 0)}, api.Poly{term(2, 0, 2, 0), term(1, 1, 0, 1)}},
		{words, []api.Term{term(2, 0, 2, 0), term(1, 1, 0, 1)}, api.Poly{term(1, 1, 0, 1), term(2, 0, 2, 0)}},
	} {
		got, err := poly.Of(c.r, c.l)
		want(t, fmt.Sprint("Of ", c.r, c.l), got, err, c.want, api.OK)
	}
}

// C2: of each polynomial's terms, turned round and twice over, Of makes it twice.
func TestOfDrawn(t *testing.T) {
	for _, r := range rings() {
		for _, f := range drawn(r, 10) {
			terms := slices.Concat(f, f)
			slices.Reverse(terms)
			got, err := poly.Of(r, terms)
			wantTerms(t, r, fmt.Sprint("Of ", r, terms), got, err, terms)
		}
	}
}

// C2: errors of Of, and which comes first.
func TestOfErrors(t *testing.T) {
	for _, c := range []struct {
		l    []api.Term
		want api.Errno
	}{
		{[]api.Term{term(7, 0, 0)}, api.ErrRange},
		{[]api.Term{term(-1, 0, 0)}, api.ErrRange},
		{[]api.Term{term(math.MaxInt, 0, 0)}, api.ErrRange},
		{[]api.Term{term(1, 0)}, api.ErrForm},
		{[]api.Term{term(0, 0)}, api.ErrForm},
		{[]api.Term{term(0, 0, -1)}, api.ErrRange},
		{[]api.Term{term(1, 200, 1)}, api.ErrRange},
		{[]api.Term{term(7, 0)}, api.ErrRange},
		{[]api.Term{term(1, 0), term(7, 0, 0)}, api.ErrForm},
		{[]api.Term{term(7, 0, 0), term(1, 0)}, api.ErrRange},
		{[]api.Term{term(1, 0, 0), term(1, 1, 0), term(7, 0, 0)}, api.ErrRange},
		{[]api.Term{term(1, 0, 0), term(1, 1, 0), term(1, 0)}, api.ErrForm},
		{make([]api.Term, 2001), api.ErrMany},
	} {
		got, err := poly.Of(plane, c.l)
		want(t, fmt.Sprintf("Of %d terms, from %v on", len(c.l), c.l[0]), got, err, nil, c.want)
	}
	// As many as may be, all the same: 2000 is 5 modulo 7.
	got, err := poly.Of(plane, slices.Repeat([]api.Term{term(1, 1, 0)}, 2000))
	want(t, "Of 2000", got, err, api.Poly{term(5, 1, 0)}, api.OK)
}

// C3: sums and products, term by term.
func TestAddMul(t *testing.T) {
	for _, r := range rings() {
		l := drawn(r, 8)
		for _, f := range l {
			for _, g := range l {
				what := fmt.Sprint(" ", r, f, g)
				sum, err := poly.Add(r, f, g)
				wantTerms(t, r, "Add"+what, sum, err, slices.Concat(f, g))
				product, err := poly.Mul(r, f, g)
				wantTerms(t, r, "Mul"+what, product, err, allProducts(f, g))
			}
		}
	}
}

// C3: products at the greatest degree, and over it.
func TestMulDegree(t *testing.T) {
	for _, c := range []struct {
		f, g, want api.Poly
		err        api.Errno
	}{
		{api.Poly{term(2, 150, 0)}, api.Poly{term(3, 0, 50)}, api.Poly{term(6, 150, 50)}, api.OK},
		{api.Poly{term(2, 150, 0)}, api.Poly{term(3, 1, 50)}, nil, api.ErrMany},
		{api.Poly{term(2, 150, 0)}, api.Poly{term(3, 0, 51), term(1, 0, 0)}, nil, api.ErrMany},
		{api.Poly{term(1, 200, 0)}, api.Poly{term(1, 0, 200)}, nil, api.ErrMany},
		{api.Poly{term(1, 200, 0)}, api.Poly{term(3, 0, 0)}, api.Poly{term(3, 200, 0)}, api.OK},
		{api.Poly{term(1, 200, 0)}, nil, nil, api.OK},
	} {
		got, err := poly.Mul(plane, c.f, c.g)
		want(t, fmt.Sprint("Mul ", c.f, c.g), got, err, c.want, c.err)
		got, err = poly.Mul(plane, c.g, c.f)
		want(t, fmt.Sprint("Mul ", c.g, c.f), got, err, c.want, c.err)
	}
}

// C3: sums at the greatest count of terms, and over it.
func TestAddMany(t *testing.T) {
	all := sorted(space, 1, upTo(3, 40))
	for _, c := range []struct {
		f, g  api.Poly
		count int
		err   api.Errno
	}{
		{all[:1000], all[1000:2000], 2000, api.OK},
		{all[:1000], all[1000:2001], 0, api.ErrMany},
		{all[:2000], all[1:2000], 2000, api.OK},
		{all[:2000], all[1:2001], 0, api.ErrMany},
		{all[:2000], sorted(space, 100, upTo(3, 40))[1:2001], 2, api.OK},
	} {
		sum, err := poly.Add(space, c.f, c.g)
		if len(sum) != c.count || err != c.err {
			t.Errorf("%d and %d terms: %d %d, must be %d %d", len(c.f), len(c.g), len(sum), err, c.count, c.err)
		}
	}
}

// power of x + y + z + 1.
func power(t *testing.T, r api.Ring, n int) api.Poly {
	t.Helper()
	f, _ := poly.Of(r, []api.Term{term(1, 1, 0, 0), term(1, 0, 1, 0), term(1, 0, 0, 1), term(1, 0, 0, 0)})
	made := api.Poly{term(1, 0, 0, 0)}
	for range n {
		var err api.Errno
		if made, err = poly.Mul(r, made, f); err != api.OK {
			t.Fatalf("power %d: %d", n, err)
		}
	}
	return made
}

// C3: products with too many terms, and with too many on the way alone.
func TestMulMany(t *testing.T) {
	wide := sorted(space, 1, upTo(3, 14))
	if got, err := poly.Mul(space, wide, wide); got != nil || err != api.ErrMany {
		t.Errorf("all of degree 28: %d terms, %d", len(got), err)
	}
	// (x + y + z + 1)^37 is x^37 + y^37 + z^37 + 1 modulo 37, though two millions of products come to it.
	r := api.Ring{P: 37, N: 3, Order: api.OrderWords, Over: api.OverPlace}
	got, err := poly.Mul(r, power(t, r, 17), power(t, r, 20))
	want(t, "power 37", got, err, api.Poly{term(1, 37, 0, 0), term(1, 0, 37, 0), term(1, 0, 0, 37), term(1, 0, 0, 0)}, api.OK)
}

// C3: just 2000 terms of a product, and one more.
func TestMulManyExact(t *testing.T) {
	// Of two polynomials in different variables each product is a term of its own.
	powers := func(n int, exponents func(i int) []int) api.Poly {
		var l [][]int
		for i := range n {
			l = append(l, exponents(i))
		}
		return sorted(plane, 1, l)
	}
	for _, c := range []struct {
		x, y int
		err  api.Errno
	}{{40, 50, api.OK}, {50, 40, api.OK}, {29, 69, api.ErrMany}, {87, 23, api.ErrMany}} {
		f := powers(c.x, func(i int) []int { return []int{i, 0} })
		g := powers(c.y, func(i int) []int { return []int{0, i} })
		got, err := poly.Mul(plane, f, g)
		if err != c.err || err == api.OK && len(got) != c.x*c.y || err != api.OK && got != nil {
			t.Errorf("%d times %d terms: %d %d, must be %d", c.x, c.y, len(got), err, c.err)
		}
	}
}

// C3: values, and wrong places.
func TestValue(t *testing.T) {
	f := api.Poly{term(1, 2, 0), term(3, 0, 1), term(5, 0, 0)}
	for _, c := range []struct {
		f    api.Poly
		at   []int
		want int
		err  api.Errno
	}{
		{f, []int{0, 0}, 5, api.OK},
		{f, []int{2, 3}, 4, api.OK},
		{f, []int{6, 6}, 3, api.OK},
		{nil, []int{6, 6}, 0, api.OK},
		{api.Poly{term(2, 200, 0)}, []int{3, 0}, 4, api.OK},
		{api.Poly{term(2, 100, 100)}, []int{0, 3}, 0, api.OK},
		{f, nil, 0, api.ErrForm},
		{f, []int{1}, 0, api.ErrForm},
		{f, []int{1, 1, 1}, 0, api.ErrForm},
		{f, []int{7}, 0, api.ErrForm},
		{f, []int{7, 0}, 0, api.ErrRange},
		{f, []int{0, -1}, 0, api.ErrRange},
		{nil, []int{math.MaxInt, math.MinInt}, 0, api.ErrRange},
		{nil, []int{0}, 0, api.ErrForm},
	} {
		if got, err := poly.Value(plane, c.f, c.at); got != c.want || err != c.err {
			t.Errorf("%v at %v: %d %d, must be %d %d", c.f, c.at, got, err, c.want, c.err)
		}
	}
}

// C4: how polynomials are printed.
func TestPrint(t *testing.T) {
	line := api.Ring{P: 2, N: 1, Order: api.OrderWords, Over: api.OverMono}
	words := api.Ring{P: 101, N: 3, Order: api.OrderWords, Over: api.OverMono}
	for _, c := range []struct {
		r    api.Ring
		f    api.Poly
		want string
	}{
		{plane, nil, "0"},
		{plane, api.Poly{}, "0"},
		{plane, api.Poly{term(1, 0, 0)}, "1"},
		{plane, api.Poly{term(6, 0, 0)}, "6"},
		{plane, api.Poly{term(1, 1, 0)}, "x"},
		{plane, api.Poly{term(2, 0, 1)}, "2*y"},
		{plane, api.Poly{term(1, 1, 1), term(1, 0, 0)}, "x*y + 1"},
		{plane, api.Poly{term(6, 2, 0), term(1, 0, 2), term(3, 1, 0), term(1, 0, 1), term(4, 0, 0)}, "6*x^2 + y^2 + 3*x + y + 4"},
		{words, api.Poly{term(100, 1, 2, 3), term(5, 0, 6, 0), term(1, 0, 0, 1)}, "100*x*y^2*z^3 + 5*y^6 + z"},
		{space, api.Poly{term(1, 0, 0, 200), term(10, 10, 0, 1)}, "z^200 + 10*x^10*z"},
		{line, api.Poly{term(1, 2), term(1, 1), term(1, 0)}, "x^2 + x + 1"},
	} {
		if got, err := poly.Print(c.r, c.f); got != c.want || err != api.OK {
			t.Errorf("%v: %q %d, must be %q", c.f, got, err, c.want)
		}
	}
}

// pair: what two come to; its error is looked at elsewhere.
func pair(do func(r api.Ring, f, g api.Poly) (api.Poly, api.Errno), r api.Ring, f, g api.Poly) api.Poly {
	made, _ := do(r, f, g)
	return made
}

// C5: they are a ring.
func TestRingLaws(t *testing.T) {
	for _, r := range rings() {
		one := api.Poly{term(1, make([]int, r.N)...)}
		minus := api.Poly{term(r.P-1, make([]int, r.N)...)}
		add := func(f, g api.Poly) api.Poly { return pair(poly.Add, r, f, g) }
		mul := func(f, g api.Poly) api.Poly { return pair(poly.Mul, r, f, g) }
		l := drawn(r, 5)
		for _, f := range l {
			if !same(mul(one, f), f) || !same(add(nil, f), f) || len(add(f, mul(minus, f))) > 0 || len(mul(nil, f)) > 0 {
				t.Errorf("%v: %v with 1, 0 and what is against it", r, f)
			}
			for _, g := range l {
				if !same(add(f, g), add(g, f)) || !same(mul(f, g), mul(g, f)) {
					t.Errorf("%v: %v and %v, turned round", r, f, g)
				}
				for _, h := range l {
					if !same(add(add(f, g), h), add(f, add(g, h))) || !same(mul(mul(f, g), h), mul(f, mul(g, h))) {
						t.Errorf("%v: %v, %v and %v, one after another", r, f, g, h)
					}
					if !same(mul(f, add(g, h)), add(mul(f, g), mul(f, h))) {
						t.Errorf("%v: %v times the sum of %v and %v", r, f, g, h)
					}
				}
			}
		}
	}
}

// C5: the value of a sum, a product, is the sum, the product, of the values.
func TestValuesGoAlong(t *testing.T) {
	for _, r := range rings() {
		l := drawn(r, 4)
		for _, at := range upTo(r.N, min(r.P-1, 4)) {
			value := func(f api.Poly) int {
				n, err := poly.Value(r, f, at)
				if err != api.OK || n < 0 || n >= r.P {
					t.Errorf("%v: %v at %v: %d %d", r, f, at, n, err)
				}
				return n
			}
			for _, f := range l {
				for _, g := range l {
					if n := value(pair(poly.Add, r, f, g)); n != (value(f)+value(g))%r.P {
						t.Errorf("%v: %v and %v at %v: %d", r, f, g, at, n)
					}
					if n := value(pair(poly.Mul, r, f, g)); n != value(f)*value(g)%r.P {
						t.Errorf("%v: %v times %v at %v: %d", r, f, g, at, n)
					}
				}
			}
		}
	}
}

// roomy: a polynomial, with spare room behind its terms and behind each one's exponents.
func roomy() api.Poly {
	first, second := []int{2, 0, -5}, []int{0, 1, -6}
	return api.Poly{{C: 1, E: first[:2]}, {C: 3, E: second[:2]}, {C: -9, E: []int{-9}}}[:2]
}

// whole: what stands in the room of a polynomial.
func whole(f api.Poly) string {
	s := fmt.Sprint(f[:cap(f)])
	for _, t := range f {
		s += fmt.Sprint(t.E[:cap(t.E)])
	}
	return s
}

// spoil all that was answered, its room too.
func spoil(f api.Poly) {
	for i := range f {
		f[i].C = 77
		for k := range f[i].E {
			f[i].E[k] = 88
		}
		_ = append(f[i].E, 99)
	}
	_ = append(f, term(99))
}

// P2, P3: what is handed in is only read; each answer is new memory, and the same each time.
func TestReadsOnlyAnswersNew(t *testing.T) {
	one := api.Poly{term(1, 0, 0)}
	for name, do := range map[string]func(f api.Poly) (api.Poly, api.Errno){
		"Of":          func(f api.Poly) (api.Poly, api.Errno) { return poly.Of(plane, f) },
		"Add nothing": func(f api.Poly) (api.Poly, api.Errno) { return poly.Add(plane, f, nil) },
		"nothing Add": func(f api.Poly) (api.Poly, api.Errno) { return poly.Add(plane, nil, f) },
		"Add one":     func(f api.Poly) (api.Poly, api.Errno) { return poly.Add(plane, f, one) },
		"Add itself":  func(f api.Poly) (api.Poly, api.Errno) { return poly.Add(plane, f, f) },
		"Mul one":     func(f api.Poly) (api.Poly, api.Errno) { return poly.Mul(plane, f, one) },
		"one Mul":     func(f api.Poly) (api.Poly, api.Errno) { return poly.Mul(plane, one, f) },
		"Mul itself":  func(f api.Poly) (api.Poly, api.Errno) { return poly.Mul(plane, f, f) },
	} {
		f := roomy()
		before := whole(f)
		first, err := do(f)
		told := fmt.Sprint(first, err)
		spoil(first)
		if after := whole(f); after != before || fmt.Sprint(one) != fmt.Sprint(api.Poly{term(1, 0, 0)}) {
			t.Errorf("%s: what was handed in is %s, and was %s", name, after, before)
		}
		second, err := do(f)
		if again := fmt.Sprint(second, err); again != told || err != api.OK {
			t.Errorf("%s: %s, and then %s", name, told, again)
		}
		spoil(f)
		if again := fmt.Sprint(second, err); again != told {
			t.Errorf("%s: kept what was handed in: %s, and then %s", name, told, again)
		}
	}
}

// P2: what is only asked for is not changed either.
func TestAskingReadsOnly(t *testing.T) {
	f, at := roomy(), []int{1, 2, -7}
	before := whole(f)
	poly.Check(plane, f)
	poly.Print(plane, f)
	poly.Value(plane, f, at[:2])
	if after := whole(f); after != before || !slices.Equal(at, []int{1, 2, -7}) {
		t.Errorf("%s %v, and was %s", after, at, before)
	}
}

func Example() {
	r := api.Ring{P: 7, N: 1, Order: api.OrderReverse, Over: api.OverMono}
	f, _ := poly.Of(r, []api.Term{{C: 2, E: []int{0}}, {C: 1, E: []int{1}}})
	square, _ := poly.Mul(r, f, f)
	text, _ := poly.Print(r, square)
	value, _ := poly.Value(r, f, []int{3})
	fmt.Println(text, value)
	// Output: x^2 + 4*x + 4 5
}
