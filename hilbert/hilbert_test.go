package hilbert_test

import (
	"fmt"
	"math"
	"slices"
	"testing"

	"syzygist/api"
	"syzygist/field"
	"syzygist/hilbert"
	"syzygist/poly"
	"syzygist/vector"
)

var plane = api.Ring{P: 7, N: 2, Order: api.OrderReverse, Over: api.OverMono}

func term(c int, e ...int) api.Term { return api.Term{C: c, E: e} }

// one term alone.
func one(c int, e ...int) api.Poly { return api.Poly{term(c, e...)} }

// Wrong polynomials, each with an error of its own.
func wrongForm() api.Poly  { return one(1, 1) }
func wrongRange() api.Poly { return one(0, 1, 0) }
func wrongState() api.Poly { return api.Poly{term(1, 0, 1), term(1, 1, 0)} }
func wrongMany() api.Poly  { return make(api.Poly, 2001) }

// mixed: a polynomial that is right, but of two degrees.
func mixed() api.Poly { return api.Poly{term(1, 1, 0), term(1, 0, 0)} }

func over(r api.Ring, order, over int) api.Ring {
	r.Order, r.Over = order, over
	return r
}

// rings of each count of variables, in both orders, over both.
func rings() []api.Ring {
	var l []api.Ring
	for _, r := range []api.Ring{{P: 2, N: 3}, {P: 101, N: 3}, {P: 7, N: 2}, {P: 3, N: 1}} {
		for _, order := range []int{api.OrderReverse, api.OrderWords} {
			l = append(l, over(r, order, api.OverMono), over(r, order, api.OverPlace))
		}
	}
	return l
}

// drawer of numbers, the same ones each time.
type drawer uint32

func (d *drawer) next(n int) int {
	*d = *d*1664525 + 1013904223
	return int(*d>>16) % n
}

// poly of at most some terms, all of a degree; none, if that is not from 0 to 3.
func (d *drawer) poly(r api.Ring, terms, degree int) api.Poly {
	var l []api.Term
	for range d.next(terms + 1) {
		e := make([]int, r.N)
		for range degree {
			e[d.next(r.N)]++
		}
		l = append(l, term(d.next(r.P), e...))
	}
	if degree < 0 || degree > 3 {
		return nil
	}
	f, _ := poly.Of(r, l)
	return f
}

// list of vectors of which each has one degree, and the degrees of its places.
func (d *drawer) list(r api.Ring, rank, count, terms int) ([]int, []api.Vector) {
	var degrees []int
	for range rank {
		degrees = append(degrees, d.next(1+d.next(7)))
	}
	var l []api.Vector
	for range count {
		var v api.Vector
		degree := degrees[d.next(rank)] + d.next(4)
		for _, place := range degrees {
			v = append(v, d.poly(r, terms, degree-place))
		}
		l = append(l, v)
	}
	return degrees, l
}

// monomials of n variables, of a degree.
func monomials(n, degree int) [][]int {
	if degree < 0 {
		return nil
	}
	if n == 1 {
		return [][]int{{degree}}
	}
	var all [][]int
	for first := range degree + 1 {
		for _, e := range monomials(n-1, degree-first) {
			all = append(all, append([]int{first}, e...))
		}
	}
	return all
}

// inside: how many independent vectors of a degree the module of a list has, by the rank of all products of its vectors and monomials.
func inside(t *testing.T, r api.Ring, degrees []int, l []api.Vector, degree int) int {
	t.Helper()
	var rows [][]int
	for _, v := range l {
		own, err := vector.Degree(r, degrees, v)
		if err != api.OK {
			continue
		}
		for _, e := range monomials(r.N, degree-own) {
			product, _ := vector.Scale(r, one(1, e...), v)
			var row []int
			for place, f := range product {
				row = append(row, coefficients(f, monomials(r.N, degree-degrees[place]))...)
			}
			rows = append(rows, row)
		}
	}
	rank, err := field.Rank(r.P, rows)
	if err != api.OK {
		t.Fatalf("the rank of %d rows: %d", len(rows), err)
	}
	return rank
}

// coefficients of a polynomial, one for each of some monomials.
func coefficients(f api.Poly, all [][]int) []int {
	row := make([]int, len(all))
	for _, x := range f {
		row[slices.IndexFunc(all, func(e []int) bool { return slices.Equal(e, x.E) })] = x.C
	}
	return row
}

func wantCount(t *testing.T, what string, r api.Ring, degrees []int, l []api.Vector, d, wanted int, wantErr api.Errno) {
	t.Helper()
	if got, err := hilbert.Count(r, degrees, l, d); got != wanted || err != wantErr {
		t.Errorf("%s: Count(%v, %v, %v, %d): %d %d, must be %d %d", what, r, degrees, l, d, got, err, wanted, wantErr)
	}
}

func wantNumerator(t *testing.T, what string, r api.Ring, degrees []int, l []api.Vector, wanted []int) {
	t.Helper()
	if got, err := hilbert.Numerator(r, degrees, l); !slices.Equal(got, wanted) || err != api.OK {
		t.Errorf("%s: Numerator(%v, %v, %v): %v %d, must be %v", what, r, degrees, l, got, err, wanted)
	}
}

// wantError of Check, and ahead of all of their own of Count and Numerator.
func wantError(t *testing.T, what string, r api.Ring, degrees []int, l []api.Vector, wanted api.Errno) {
	t.Helper()
	if err := hilbert.Check(r, degrees, l); err != wanted {
		t.Errorf("%s: Check: %d, must be %d", what, err, wanted)
	}
	if wanted == api.OK {
		return
	}
	for _, d := range []int{-1, 0, 12, 13, math.MinInt, math.MaxInt} {
		wantCount(t, what, r, degrees, l, d, 0, wanted)
	}
	if got, err := hilbert.Numerator(r, degrees, l); got != nil || err != wanted {
		t.Errorf("%s: Numerator: %v %d, must be %d", what, got, err, wanted)
	}
}

// I1, P1: the errors of chapter 6 come first, by the rank of how many degrees there are, then those of the degrees, then those of each vector's degree.
func TestErrors(t *testing.T) {
	x, zero := one(1, 1, 0), []int{0}
	for _, c := range []struct {
		name    string
		r       api.Ring
		degrees []int
		l       []api.Vector
		want    api.Errno
	}{
		{"no ring", api.Ring{}, nil, nil, api.ErrRange},
		{"no prime", api.Ring{P: 9, N: 2, Order: 1, Over: 1}, nil, nil, api.ErrState},
		{"too many variables", api.Ring{P: 7, N: 4, Order: 1, Over: 1}, nil, nil, api.ErrRange},
		{"no such order", api.Ring{P: 7, N: 2, Order: 3, Over: 1}, nil, nil, api.ErrKind},
		{"no such over", api.Ring{P: 7, N: 2, Order: 1, Over: 0}, nil, nil, api.ErrKind},
		{"no degrees", plane, nil, make([]api.Vector, 61), api.ErrRange},
		{"no degrees, but an empty list of them", plane, []int{}, nil, api.ErrRange},
		{"41 degrees", plane, make([]int, 41), nil, api.ErrRange},
		{"61 vectors", plane, []int{7}, make([]api.Vector, 61), api.ErrMany},
		{"form, ahead of a degree", plane, []int{7}, []api.Vector{{x, x}}, api.ErrForm},
		{"coefficient", plane, []int{7}, []api.Vector{{wrongRange()}}, api.ErrRange},
		{"monomial", plane, []int{7}, []api.Vector{{wrongForm()}}, api.ErrForm},
		{"rising, ahead of a degree", plane, []int{7}, []api.Vector{{wrongState()}}, api.ErrState},
		{"2001 terms", plane, []int{7}, []api.Vector{{wrongMany()}}, api.ErrMany},
		{"4 degrees, ahead of those", plane, []int{0, 0, 0, 7}, nil, api.ErrMany},
		{"5 vectors, ahead of a degree", plane, []int{-1}, slices.Repeat([]api.Vector{{x}}, 5), api.ErrMany},
		{"degree 4, ahead of a place's", plane, []int{-1}, []api.Vector{{one(1, 4, 0)}}, api.ErrMany},
		{"a place of degree 7", plane, []int{7}, nil, api.ErrRange},
		{"a place of degree -1, ahead of a mixed vector", plane, []int{0, -1}, []api.Vector{{mixed(), nil}}, api.ErrRange},
		{"a place of a great degree, without terms", plane, []int{0, math.MaxInt}, []api.Vector{{x, nil}}, api.ErrRange},
		{"mixed", plane, zero, []api.Vector{{mixed()}}, api.ErrState},
		{"mixed, the last one", plane, zero, []api.Vector{{x}, {nil}, {mixed()}}, api.ErrState},
		{"mixed, by the places", plane, []int{0, 1}, []api.Vector{{x, x}}, api.ErrState},
		{"right by the places", plane, []int{0, 1}, []api.Vector{{one(1, 1, 1), x}}, api.OK},
		{"places of degree 6", plane, []int{6, 6, 6}, []api.Vector{{x, x, x}}, api.OK},
		{"without terms", plane, []int{0, 6}, []api.Vector{{nil, nil}, {nil, {}}}, api.OK},
		{"without vectors", plane, []int{0, 6, 3}, nil, api.OK},
		{"units", plane, []int{3}, []api.Vector{{one(1, 0, 0)}}, api.OK},
	} {
		wantError(t, c.name, c.r, c.degrees, c.l, c.want)
	}
}

// I2: Count takes degrees from 0 to 12.
func TestCountRange(t *testing.T) {
	for _, d := range []int{math.MinInt, -1, 13, math.MaxInt} {
		wantCount(t, "out of range", plane, []int{0}, nil, d, 0, api.ErrRange)
	}
	wantCount(t, "least", plane, []int{0}, nil, 0, 1, api.OK)
	wantCount(t, "most", plane, []int{0}, nil, 12, 13, api.OK)
}

// I2: Free, by how many are chosen out of how many; and its errors.
func TestFree(t *testing.T) {
	for d := -100; d <= 100; d++ {
		wanted := []int{1, d + 1, (d + 1) * (d + 2) / 2}
		if d < 0 {
			wanted = []int{0, 0, 0}
		}
		for i, w := range wanted {
			if got, err := hilbert.Free(i+1, d); got != w || err != api.OK {
				t.Errorf("Free(%d, %d): %d %d, must be %d", i+1, d, got, err, w)
			}
		}
	}
	for _, c := range [][2]int{{0, 0}, {4, 0}, {-1, 5}, {math.MinInt, 0}, {math.MaxInt, 0}, {1, -101}, {1, 101}, {3, 101}, {2, math.MinInt}, {2, math.MaxInt}, {0, 101}} {
		if got, err := hilbert.Free(c[0], c[1]); got != 0 || err != api.ErrRange {
			t.Errorf("Free(%d, %d): %d %d, must be 0 %d", c[0], c[1], got, err, api.ErrRange)
		}
	}
}

// I2, I3: counts and numerators that are known, in all orders.
func TestKnown(t *testing.T) {
	x, y, xx, xy, yy, unit := one(1, 1, 0), one(1, 0, 1), one(1, 2, 0), one(1, 1, 1), one(1, 0, 2), one(3, 0, 0)
	for _, c := range []struct {
		name    string
		degrees []int
		l       []api.Vector
		counts  []int
		want    []int
	}{
		{"the document's example", []int{0}, []api.Vector{{x}}, []int{1, 1, 1, 1}, []int{1, -1}},
		{"nothing", []int{0}, nil, []int{1, 2, 3, 4}, []int{1}},
		{"nothing, at places", []int{2, 0, 2}, []api.Vector{{nil, nil, nil}}, []int{1, 2, 5, 8}, []int{1, 0, 2}},
		{"all", []int{0}, []api.Vector{{unit}}, []int{0, 0, 0, 0}, nil},
		{"all, at places", []int{1, 1}, []api.Vector{{unit, unit}, {nil, unit}}, []int{0, 0, 0, 0}, nil},
		{"a unit at one place", []int{0, 1}, []api.Vector{{x, unit}}, []int{1, 2, 3, 4}, []int{1}},
		{"x and y", []int{0}, []api.Vector{{x}, {y}}, []int{1, 0, 0, 0}, []int{1, -2, 1}},
		{"all of degree 2", []int{0}, []api.Vector{{xx}, {xy}, {yy}}, []int{1, 2, 0, 0}, []int{1, 0, -3, 2}},
		{"x^2 and x*y", []int{0}, []api.Vector{{xx}, {xy}}, []int{1, 2, 1, 1}, []int{1, 0, -2, 1}},
		{"one twice", []int{1}, []api.Vector{{x}, {nil}, {x}}, []int{0, 1, 1, 1}, []int{0, 1, -1}},
		{"crossed", []int{0, 0}, []api.Vector{{x, y}, {y, x}}, []int{2, 2, 2, 2}, []int{2, -2}},
		{"at a late place", []int{6, 6}, []api.Vector{{x, y}}, []int{0, 0, 0, 0, 0, 0, 2, 3}, []int{0, 0, 0, 0, 0, 0, 2, -1}},
		{"of degree 3", []int{0}, []api.Vector{{one(1, 3, 0)}, {one(1, 0, 3)}}, []int{1, 2, 3, 2, 1, 0}, []int{1, 0, 0, -2, 0, 0, 1}},
	} {
		for _, r := range rings()[8:12] {
			wantError(t, c.name, r, c.degrees, c.l, api.OK)
			wantNumerator(t, c.name, r, c.degrees, c.l, c.want)
			for d, n := range c.counts {
				wantCount(t, c.name, r, c.degrees, c.l, d, n, api.OK)
			}
		}
	}
}

// I3: where no power of a variable is made needless by the others, the numerator is a product, of a great degree.
func TestPowers(t *testing.T) {
	for _, r := range rings()[:8] {
		l := []api.Vector{{one(1, 3, 0, 0)}, {one(1, 0, 3, 0)}, {one(1, 0, 0, 3)}}
		wantNumerator(t, "powers", r, []int{0}, l, []int{1, 0, 0, -3, 0, 0, 3, 0, 0, -1})
		wantNumerator(t, "powers at 6", r, []int{6}, l, []int{0, 0, 0, 0, 0, 0, 1, 0, 0, -3, 0, 0, 3, 0, 0, -1})
		wantNumerator(t, "in one place of two", r, []int{1, 0}, []api.Vector{{one(1, 1, 0, 0), nil}}, []int{1, 1, -1})
	}
}

// I2, I4: what is counted is all, less how many of the module are independent: by the rank of all that is made.
func TestCounted(t *testing.T) {
	for _, r := range rings() {
		for rank := 1; rank <= 3; rank++ {
			for seed := range 10 {
				d := drawer(100*seed + rank)
				degrees, l := d.list(r, rank, seed%5, 4)
				for degree := 0; degree <= 12; degree += 1 + seed%2 {
					without, err := hilbert.Count(r, degrees, nil, degree)
					if err != api.OK {
						t.Fatalf("Count(%v, %v, nil, %d): %d", r, degrees, degree, err)
					}
					wantCount(t, "drawn", r, degrees, l, degree, without-inside(t, r, degrees, l, degree), api.OK)
				}
			}
		}
	}
}

// I3: of whatever lists, Count is told by the numerator, for each degree; and what no order hangs on is the same in all.
func TestNumerator(t *testing.T) {
	for i, r := range rings() {
		for rank := 1; rank <= 3; rank++ {
			for seed := range 25 {
				d := drawer(1000 + 100*seed + rank)
				degrees, l := d.list(r, rank, seed%5, 1+seed%6)
				numbers, err := hilbert.Numerator(r, degrees, l)
				if err != api.OK || len(numbers) > 0 && numbers[len(numbers)-1] == 0 {
					t.Errorf("Numerator(%v, %v, %v): %v %d", r, degrees, l, numbers, err)
				}
				for degree := range 13 {
					wantCount(t, "by the numerator", r, degrees, l, degree, told(r.N, numbers, degree), api.OK)
				}
				other := rings()[i/4*4]
				wantNumerator(t, "in another order", other, degrees, turned(other, l), numbers)
			}
		}
	}
}

// told: how many there are of a degree, by a numerator.
func told(n int, numbers []int, degree int) int {
	sum := 0
	for k, a := range numbers {
		free, _ := hilbert.Free(n, degree-k)
		sum += a * free
	}
	return sum
}

// turned: a list as another order has it.
func turned(r api.Ring, l []api.Vector) []api.Vector {
	var all []api.Vector
	for _, v := range l {
		var w api.Vector
		for _, f := range v {
			g, _ := poly.Of(r, f)
			w = append(w, g)
		}
		all = append(all, w)
	}
	return all
}

// I4: what is in the module already takes nothing away; more vectors leave no more.
func TestMoreVectors(t *testing.T) {
	for _, r := range rings() {
		for seed := range 20 {
			d := drawer(2000 + seed)
			degrees, l := d.list(r, 2, 3, 3)
			made, _ := vector.Scale(r, one(1, make([]int, r.N)...), l[0])
			for degree := range 13 {
				all, _ := hilbert.Count(r, degrees, l, degree)
				wantCount(t, "one twice", r, degrees, append(slices.Clone(l), made), degree, all, api.OK)
				if fewer, _ := hilbert.Count(r, degrees, l[:2], degree); fewer < all {
					t.Errorf("%v, %v: of %v there are %d of degree %d, without the last one %d", r, degrees, l, all, degree, fewer)
				}
			}
		}
	}
}

// P1: lists that are as great as they may be.
func TestGreatest(t *testing.T) {
	for _, r := range rings()[:8] {
		for rank := 1; rank <= 3; rank++ {
			d := drawer(3000 + rank)
			degrees := []int{6, 6, 6}[:rank]
			var l []api.Vector
			for range 4 {
				v := make(api.Vector, rank)
				for place := range v {
					for len(v[place]) < min(4, r.P+1) {
						v[place] = d.poly(r, 6, 3)
					}
				}
				l = append(l, v)
			}
			numbers, err := hilbert.Numerator(r, degrees, l)
			if err != api.OK {
				t.Errorf("Numerator(%v, %v, %v): %v %d", r, degrees, l, numbers, err)
			}
			for degree := range 13 {
				wantCount(t, "greatest", r, degrees, l, degree, told(r.N, numbers, degree), api.OK)
			}
		}
	}
}

// roomy: a vector with spare room behind each of its lists.
func roomy(c int, e ...int) api.Vector {
	exponents := append(e, -5)
	f := api.Poly{{C: c, E: exponents[:2]}, {C: -8, E: []int{-8}}}
	return api.Vector{f[:1], one(-7, -7)}[:1]
}

// whole: what stands in the room of lists.
func whole(degrees []int, l []api.Vector) string {
	s := fmt.Sprint(degrees[:cap(degrees)], l[:cap(l)])
	for _, v := range l {
		s += fmt.Sprint(v[:cap(v)])
		for _, f := range v {
			s += fmt.Sprint(f[:cap(f)])
			for _, t := range f {
				s += fmt.Sprint(t.E[:cap(t.E)])
			}
		}
	}
	return s
}

// P2, P3: what is handed in is only read and not kept; what is answered is new, and the same each time.
func TestReadsOnlyAnswersNew(t *testing.T) {
	degrees := []int{2, -9}[:1]
	l := []api.Vector{roomy(2, 2, 1), roomy(5, 1, 1), roomy(1, 0, 3), {nil}}[:3]
	before := whole(degrees, l)
	ask := func() string {
		count, err := hilbert.Count(plane, degrees, l, 4)
		numbers, other := hilbert.Numerator(plane, degrees, l)
		told := fmt.Sprint(hilbert.Check(plane, degrees, l), count, err, numbers, other)
		for i := range numbers {
			numbers[i] = 77
		}
		_ = append(numbers, 88)
		return told
	}
	first := ask()
	if first != "0 2 0 [0 0 1 0 -1 -1 1] 0" {
		t.Errorf("of x*y and y^3, at 2: %s", first)
	}
	if again := ask(); again != first {
		t.Errorf("%s, and then %s", first, again)
	}
	if after := whole(degrees, l); after != before {
		t.Errorf("what was handed in is %s, and was %s", after, before)
	}
}

func Example() {
	r := api.Ring{P: 7, N: 2, Order: api.OrderReverse, Over: api.OverMono}
	l := []api.Vector{{{{C: 1, E: []int{1, 0}}}}}
	count, err := hilbert.Count(r, []int{0}, l, 5)
	numbers, _ := hilbert.Numerator(r, []int{0}, l)
	free, _ := hilbert.Free(2, 5)
	fmt.Println(count, err, numbers, free)
	// Output: 1 0 [1 -1] 6
}
