package syzygy_test

import (
	"fmt"
	"math"
	"slices"
	"testing"

	"syzygist/api"
	"syzygist/basis"
	"syzygist/divide"
	"syzygist/field"
	"syzygist/mono"
	"syzygist/poly"
	"syzygist/syzygy"
	"syzygist/vector"
)

var plane = api.Ring{P: 7, N: 2, Order: api.OrderReverse, Over: api.OverMono}

func term(c int, e ...int) api.Term { return api.Term{C: c, E: e} }

// one term alone.
func one(c int, e ...int) api.Poly { return api.Poly{term(c, e...)} }

// Wrong polynomials, each with an error of its own.
func wrongForm() api.Poly  { return one(1, 1) }
func wrongRange() api.Poly { return one(0, 1, 0) }
func wrongState() api.Poly { return api.Poly{term(1, 0, 1), term(1, 1, 0)} }
func wrongMany() api.Poly  { return make(api.Poly, 2001) }

func over(r api.Ring, order, over int) api.Ring {
	r.Order, r.Over = order, over
	return r
}

// rings of each count of variables, in both orders, over both.
func rings() []api.Ring {
	var l []api.Ring
	for _, r := range []api.Ring{{P: 2, N: 3}, {P: 101, N: 3}, {P: 7, N: 2}, {P: 3, N: 1}} {
		for _, order := range []int{api.OrderReverse, api.OrderWords} {
			l = append(l, over(r, order, api.OverMono), over(r, order, api.OverPlace))
		}
	}
	return l
}

// drawer of numbers, the same ones each time.
type drawer uint32

func (d *drawer) next(n int) int {
	*d = *d*1664525 + 1013904223
	return int(*d>>16) % n
}

// poly of at most some terms, of degrees from one on.
func (d *drawer) poly(r api.Ring, terms, from, to int) api.Poly {
	var l []api.Term
	for range d.next(terms + 1) {
		e := make([]int, r.N)
		for range from + d.next(to-from+1) {
			e[d.next(r.N)]++
		}
		l = append(l, term(d.next(r.P), e...))
	}
	f, _ := poly.Of(r, l)
	return f
}

// vector of a rank.
func (d *drawer) vector(r api.Ring, rank, terms, from, to int) api.Vector {
	var v api.Vector
	for range rank {
		v = append(v, d.poly(r, terms, from, to))
	}
	return v
}

// list of vectors of a rank.
func (d *drawer) list(r api.Ring, rank, count, terms, degree int) []api.Vector {
	var l []api.Vector
	for range count {
		l = append(l, d.vector(r, rank, terms, 0, degree))
	}
	return l
}

func same(a, b any) bool { return fmt.Sprint(a) == fmt.Sprint(b) }

func isNothing(v api.Vector) bool {
	return !slices.ContainsFunc(v, func(f api.Poly) bool { return len(f) > 0 })
}

// wantSyzygies without an error; each one is held to H1.
func wantSyzygies(t *testing.T, r api.Ring, rank int, l []api.Vector) []api.Vector {
	t.Helper()
	all, err := syzygy.Syzygies(r, rank, l)
	if err != api.OK {
		t.Fatalf("Syzygies(%v, %d, %v): %v %d", r, rank, l, all, err)
	}
	for _, s := range all {
		made, err := vector.Combine(r, rank, s, l)
		if err != api.OK || !isNothing(made) {
			t.Errorf("Syzygies(%v, %d, %v): %v makes %v %d", r, rank, l, s, made, err)
		}
		wantIs(t, "of the answer", r, rank, l, s, true, api.OK)
	}
	return all
}

func wantIs(t *testing.T, what string, r api.Ring, rank int, l []api.Vector, s api.Vector, wanted bool, wantErr api.Errno) {
	t.Helper()
	if got, err := syzygy.Is(r, rank, l, s); got != wanted || err != wantErr {
		t.Errorf("%s: Is(%v, %d, %v, %v): %v %d, must be %v %d", what, r, rank, l, s, got, err, wanted, wantErr)
	}
}

func wantError(t *testing.T, what string, r api.Ring, rank int, l []api.Vector, wanted api.Errno) {
	t.Helper()
	if all, err := syzygy.Syzygies(r, rank, l); all != nil || err != wanted {
		t.Errorf("%s: %v %d, must be %d", what, all, err, wanted)
	}
}

// H1, H2, P1: what is wrong with the ring, the rank or the form of the list comes first, of both calls.
func TestErrorsOfVectors(t *testing.T) {
	long := slices.Repeat([]api.Vector{{nil}}, 61)
	for _, c := range []struct {
		name string
		r    api.Ring
		rank int
		l    []api.Vector
		want api.Errno
	}{
		{"no ring", api.Ring{}, 0, nil, api.ErrRange},
		{"no prime", api.Ring{P: 9, N: 2, Order: 1, Over: 1}, 0, nil, api.ErrState},
		{"too many variables", api.Ring{P: 7, N: 4, Order: 1, Over: 1}, 0, nil, api.ErrRange},
		{"no such order", api.Ring{P: 7, N: 2, Order: 0, Over: 1}, 0, nil, api.ErrKind},
		{"no such over", api.Ring{P: 7, N: 2, Order: 2, Over: 3}, 0, nil, api.ErrKind},
		{"rank 0", plane, 0, long, api.ErrRange},
		{"rank below 0", plane, math.MinInt, nil, api.ErrRange},
		{"rank 41", plane, 41, nil, api.ErrRange},
		{"too many vectors", plane, 2, long, api.ErrMany},
		{"form", plane, 1, make([]api.Vector, 5), api.ErrForm},
		{"form, of too great a rank", plane, 4, []api.Vector{{nil}}, api.ErrForm},
		{"rising, behind too great a degree", plane, 1, []api.Vector{{one(1, 4, 0)}, {wrongState()}}, api.ErrState},
		{"coefficient", plane, 2, []api.Vector{{nil, wrongRange()}}, api.ErrRange},
		{"monomial", plane, 2, []api.Vector{{nil, wrongForm()}}, api.ErrForm},
		{"too many terms", plane, 1, []api.Vector{{wrongMany()}}, api.ErrMany},
	} {
		wantError(t, c.name, c.r, c.rank, c.l, c.want)
		for _, s := range []api.Vector{nil, {wrongForm()}, {wrongRange()}} {
			wantIs(t, c.name, c.r, c.rank, c.l, s, false, c.want)
		}
	}
}

// H1: the limits of chapter 6, of Syzygies alone, and then whether there is a vector.
func TestErrors(t *testing.T) {
	x := one(1, 1, 0)
	six, _ := poly.Of(plane, []api.Term{term(1, 3, 0), term(1, 2, 0), term(1, 1, 0), term(1, 0, 1), term(1, 0, 2), term(1, 0, 0)})
	seven, _ := poly.Of(plane, append(slices.Clone(six), term(1, 1, 1)))
	for _, c := range []struct {
		name string
		rank int
		l    []api.Vector
		want api.Errno
	}{
		{"none", 1, nil, api.ErrRange},
		{"none, of rank 3", 3, []api.Vector{}, api.ErrRange},
		{"none, of rank 4", 4, nil, api.ErrMany},
		{"rank 4", 4, []api.Vector{{x, x, x, x}}, api.ErrMany},
		{"5 vectors", 1, []api.Vector{{x}, {x}, {x}, {x}, {x}}, api.ErrMany},
		{"7 terms", 2, []api.Vector{{nil, seven}}, api.ErrMany},
		{"degree 4", 2, []api.Vector{{nil, nil}, {nil, one(1, 2, 2)}}, api.ErrMany},
	} {
		wantError(t, c.name, plane, c.rank, c.l, c.want)
		wantIs(t, c.name, plane, c.rank, c.l, make(api.Vector, len(c.l)), true, api.OK)
	}
	if all := wantSyzygies(t, plane, 3, []api.Vector{{six, six, six}, {six, nil, nil}, {nil, six, nil}, {nil, nil, six}}); len(all) != 1 {
		t.Errorf("of as many as may be: %v", all)
	}
}

// H2: the errors of Combine, in their order.
func TestIsErrors(t *testing.T) {
	x, y := one(1, 1, 0), one(1, 0, 1)
	l := []api.Vector{{x}, {y}}
	far := one(1, 100, 100)
	for _, c := range []struct {
		name string
		l    []api.Vector
		s    api.Vector
		want api.Errno
	}{
		{"no places", l, nil, api.ErrForm},
		{"one place", l, api.Vector{wrongRange()}, api.ErrForm},
		{"three places", l, api.Vector{nil, nil, nil}, api.ErrForm},
		{"a place, of none", nil, api.Vector{nil}, api.ErrForm},
		{"coefficient", l, api.Vector{wrongRange(), wrongForm()}, api.ErrRange},
		{"monomial", l, api.Vector{nil, wrongForm()}, api.ErrForm},
		{"rising", l, api.Vector{y, wrongState()}, api.ErrState},
		{"too many terms", l, api.Vector{wrongMany(), wrongForm()}, api.ErrMany},
		{"too great a product", l, api.Vector{far, nil}, api.ErrMany},
		{"too great products, which come to nothing", []api.Vector{{x}, {x}}, api.Vector{far, one(6, 100, 100)}, api.ErrMany},
	} {
		wantIs(t, c.name, plane, 1, c.l, c.s, false, c.want)
	}
}

// H1, H2: what is one, and what not; as many vectors and places as chapter 4 has.
func TestIs(t *testing.T) {
	x, y, minus := one(1, 1, 0), one(1, 0, 1), one(6, 1, 0)
	for _, r := range rings()[8:12] {
		l := []api.Vector{{x}, {y}}
		wantIs(t, "x and y", r, 1, l, api.Vector{y, minus}, true, api.OK)
		wantIs(t, "x and y, turned", r, 1, l, api.Vector{minus, y}, false, api.OK)
		wantIs(t, "x and y, added", r, 1, l, api.Vector{y, x}, false, api.OK)
		wantIs(t, "nothing of x and y", r, 1, l, api.Vector{nil, {}}, true, api.OK)
		wantIs(t, "only at one place", r, 2, []api.Vector{{x, x}, {y, x}}, api.Vector{y, minus}, false, api.OK)
		wantIs(t, "none", r, 2, nil, nil, true, api.OK)
		wantIs(t, "none, of rank 40", r, 40, []api.Vector{}, api.Vector{}, true, api.OK)
		many := slices.Repeat([]api.Vector{make(api.Vector, 40)}, 60)
		wantIs(t, "many", r, 40, many, slices.Repeat(api.Vector{one(1, 200, 0)}, 60), true, api.OK)
	}
}

// H1: reduced bases that are known.
func TestKnown(t *testing.T) {
	x, y, unit := one(1, 1, 0), one(1, 0, 1), one(1, 0, 0)
	minusX, minusY := one(6, 1, 0), one(6, 0, 1)
	place := over(plane, api.OrderReverse, api.OverPlace)
	for _, c := range []struct {
		name string
		r    api.Ring
		rank int
		l    []api.Vector
		want []api.Vector
	}{
		{"the document's example", plane, 1, []api.Vector{{x}, {y}}, []api.Vector{{minusY, x}}},
		{"the document's example, by the place", place, 1, []api.Vector{{x}, {y}}, []api.Vector{{y, minusX}}},
		{"of one", plane, 1, []api.Vector{{x}}, nil},
		{"of nothing", plane, 2, []api.Vector{{nil, nil}}, []api.Vector{{unit}}},
		{"of nothing, twice", place, 2, []api.Vector{{nil, {}}, {nil, nil}}, []api.Vector{{unit, nil}, {nil, unit}}},
		{"one twice", plane, 1, []api.Vector{{x}, {x}}, []api.Vector{{unit, one(6, 0, 0)}}},
		{"one twice, scaled", place, 1, []api.Vector{{x}, {one(3, 1, 0)}}, []api.Vector{{unit, one(2, 0, 0)}}},
		{"nothing between", plane, 1, []api.Vector{{x}, {nil}, {y}}, []api.Vector{{minusY, nil, x}, {nil, unit, nil}}},
		{"nothing between, by the place", place, 1, []api.Vector{{x}, {nil}, {y}}, []api.Vector{{y, nil, minusX}, {nil, unit, nil}}},
		{"at two places", plane, 2, []api.Vector{{x, nil}, {nil, y}}, nil},
		{"at two places, with both", plane, 2, []api.Vector{{x, nil}, {nil, y}, {x, y}}, []api.Vector{{unit, unit, one(6, 0, 0)}}},
		{"only at the last place", plane, 3, []api.Vector{{nil, nil, x}, {nil, nil, y}}, []api.Vector{{minusY, x}}},
		{"of x, y and x + y", plane, 1, []api.Vector{{x}, {y}, {{term(1, 1, 0), term(1, 0, 1)}}}, []api.Vector{{nil, {term(1, 1, 0), term(1, 0, 1)}, minusY}, {unit, unit, one(6, 0, 0)}}},
	} {
		if got := wantSyzygies(t, c.r, c.rank, c.l); !same(got, c.want) {
			t.Errorf("%s: %v, must be %v", c.name, got, c.want)
		}
	}
}

// wantReduced: F1, of a list that is a basis.
func wantReduced(t *testing.T, r api.Ring, rank int, b []api.Vector) {
	t.Helper()
	for i, v := range b {
		at, lead, err := vector.Lead(r, v)
		if err != api.OK || lead.C != 1 {
			t.Errorf("%v: %v has the Lead %v %d", r, b, lead, err)
		}
		if normal, _ := divide.Normal(r, rank, v, slices.Delete(slices.Clone(b), i, i+1)); !normal {
			t.Errorf("%v: %v: number %d is not Normal by the others", r, b, i)
		}
		if i > 0 && !falls(r, b[i-1], at, lead) {
			t.Errorf("%v: %v: number %d does not fall", r, b, i)
		}
	}
}

// falls: is the Lead of a vector more than a term at a place?
func falls(r api.Ring, v api.Vector, at int, t api.Term) bool {
	place, lead, _ := vector.Lead(r, v)
	if r.Over == api.OverPlace && place != at {
		return place < at
	}
	order, _ := mono.Order(r, lead.E, t.E)
	return order > 0 || order == 0 && place < at
}

// wantLeavesNothing of a syzygy, divided by the answer.
func wantLeavesNothing(t *testing.T, r api.Ring, s api.Vector, all []api.Vector) {
	t.Helper()
	if _, left, err := divide.Divide(r, len(s), s, all); err != api.OK || !isNothing(left) {
		t.Errorf("%v: %v by %v leaves %v %d", r, s, all, left, err)
	}
}

// H1, H3: of whatever lists, in all rings: reduced, a basis, and none is lacking that Combine tells.
func TestSyzygies(t *testing.T) {
	for _, r := range rings() {
		for rank := 1; rank <= 3; rank++ {
			for seed := range 12 {
				d := drawer(100*seed + rank)
				l := d.list(r, rank, seed%4+1, 3, 2)
				all := wantSyzygies(t, r, rank, l)
				wantReduced(t, r, len(l), all)
				if is, err := basis.IsBasis(r, len(l), all); !is || err != api.OK {
					t.Errorf("%v: of %v: %v is no basis: %d", r, l, all, err)
				}
				for _, s := range crossed(r, rank, l) {
					wantIs(t, "crossed", r, rank, l, s, true, api.OK)
					wantLeavesNothing(t, r, s, all)
				}
			}
		}
	}
}

// crossed: of two vectors of a list that have terms at one place alone, each one by the other's polynomial there.
func crossed(r api.Ring, rank int, l []api.Vector) []api.Vector {
	var all []api.Vector
	for place := range rank {
		for i := range l {
			for k := range i {
				if !onlyAt(place, l[i]) || !onlyAt(place, l[k]) {
					continue
				}
				s := make(api.Vector, len(l))
				s[i] = l[k][place]
				s[k], _ = poly.Mul(r, one(r.P-1, make([]int, r.N)...), l[i][place])
				all = append(all, s)
			}
		}
	}
	return all
}

func onlyAt(place int, v api.Vector) bool {
	for i, f := range v {
		if i != place && len(f) > 0 {
			return false
		}
	}
	return true
}

// H3: whatever is one leaves nothing: a vector that is made of the others tells one.
func TestMadeOfOthers(t *testing.T) {
	tried := 0
	for _, r := range rings() {
		for rank := 1; rank <= 3; rank++ {
			for seed := range 30 {
				d := drawer(1000 + 100*seed + rank)
				l := d.list(r, rank, 1+seed%3, 3, 2)
				s := d.vector(r, len(l), 2, 0, 1)
				made, _ := vector.Combine(r, rank, s, l)
				if basis.Check(r, rank, []api.Vector{made}) != api.OK {
					continue
				}
				tried++
				s, l = append(s, one(r.P-1, make([]int, r.N)...)), append(l, made)
				all := wantSyzygies(t, r, rank, l)
				wantLeavesNothing(t, r, s, all)
				for _, f := range all {
					sum, _ := vector.Add(r, s, f)
					wantLeavesNothing(t, r, sum, all)
				}
			}
		}
	}
	if tried < 700 {
		t.Errorf("only %d were tried", tried)
	}
}

// monomials of n variables, of a degree.
func monomials(n, degree int) [][]int {
	if degree < 0 {
		return nil
	}
	if n == 1 {
		return [][]int{{degree}}
	}
	var all [][]int
	for first := range degree + 1 {
		for _, e := range monomials(n-1, degree-first) {
			all = append(all, append([]int{first}, e...))
		}
	}
	return all
}

// H1, H3: of lists of which each vector has terms of one degree: there are as many syzygies of each degree as the rank of all that is made leaves, and none is lacking.
func TestCounted(t *testing.T) {
	for _, r := range rings() {
		for rank := 1; rank <= 3; rank++ {
			for seed := range 6 {
				d := drawer(2000 + 100*seed + rank)
				var l []api.Vector
				var degrees []int
				for range 2 + seed%3 {
					degree := d.next(3)
					l, degrees = append(l, d.vector(r, rank, 4, degree, degree)), append(degrees, degree)
				}
				all := wantSyzygies(t, r, rank, l)
				for degree := range 7 {
					rows, led := rowsOf(t, r, rank, l, degrees, all, degree)
					independent, err := field.Rank(r.P, rows)
					if err != api.OK || independent+led != len(rows) {
						t.Errorf("%v: of %v there are %d of degree %d, must be %d: %v %d", r, l, led, degree, len(rows)-independent, all, err)
					}
				}
			}
		}
	}
}

// rowsOf all products of the vectors of a list and monomials that are of a degree; and how many of these the Leads of the syzygies go into.
func rowsOf(t *testing.T, r api.Ring, rank int, l []api.Vector, degrees []int, all []api.Vector, degree int) (rows [][]int, led int) {
	t.Helper()
	columns := monomials(r.N, degree)
	for i, v := range l {
		for _, e := range monomials(r.N, degree-degrees[i]) {
			row := make([]int, rank*len(columns))
			product, _ := vector.Scale(r, one(1, e...), v)
			for place, f := range product {
				for _, x := range f {
					at := slices.IndexFunc(columns, func(c []int) bool { return slices.Equal(c, x.E) })
					row[place*len(columns)+at] = x.C
				}
			}
			rows = append(rows, row)
			unit := make(api.Vector, len(l))
			unit[i] = one(1, e...)
			if normal, err := divide.Normal(r, len(l), unit, all); !normal && err == api.OK {
				led++
			}
		}
	}
	return rows, led
}

// H1, P1: lists that are as great as they may be.
func TestGreatest(t *testing.T) {
	for _, r := range rings()[:8] {
		for rank := 1; rank <= 3; rank++ {
			d := drawer(3000 + rank)
			l := d.full(r, rank)
			all := wantSyzygies(t, r, rank, l)
			if len(all) < 4-rank {
				t.Errorf("%v: of %v: %v", r, l, all)
			}
			wantReduced(t, r, 4, all)
		}
	}
}

// full: four vectors, each polynomial with six terms, if there are so many, of all degrees up to 3.
func (d *drawer) full(r api.Ring, rank int) []api.Vector {
	l := make([]api.Vector, 4)
	for i := range l {
		for range rank {
			var f []api.Term
			for k := range 6 {
				e := make([]int, r.N)
				for range min(k, 3) {
					e[d.next(r.N)]++
				}
				f = append(f, term(1+d.next(r.P-1), e...))
			}
			g, _ := poly.Of(r, f)
			l[i] = append(l[i], g)
		}
	}
	return l
}

// roomy: a vector with spare room behind each of its lists.
func roomy(c int, e ...int) api.Vector {
	first, second := append(e, -5), []int{0, 1, -6}
	f := api.Poly{{C: c, E: first[:2]}, {C: 3, E: second[:2]}, {C: -8, E: []int{-8}}}
	return api.Vector{f[:2], one(-7, -7)}[:1]
}

// whole: what stands in the room of vectors.
func whole(l []api.Vector) string {
	s := fmt.Sprint(l[:cap(l)])
	for _, v := range l {
		s += fmt.Sprint(v[:cap(v)])
		for _, f := range v {
			s += fmt.Sprint(f[:cap(f)])
			for _, t := range f {
				s += fmt.Sprint(t.E[:cap(t.E)])
			}
		}
	}
	return s
}

// spoil all of a vector, its room too.
func spoil(v api.Vector) {
	for i, f := range v {
		for k := range f {
			f[k].C = 77
			for n := range f[k].E {
				f[k].E[n] = 88
			}
			_ = append(f[k].E, 99)
		}
		v[i] = append(f, term(99))[:len(f)]
	}
	_ = append(v, one(99))
}

// P2, P3: what is handed in is only read; what is answered is new memory, each list of it by itself, and the same each time.
func TestReadsOnlyAnswersNew(t *testing.T) {
	for _, over := range []int{api.OverMono, api.OverPlace} {
		r := api.Ring{P: 7, N: 2, Order: api.OrderReverse, Over: over}
		l := []api.Vector{roomy(2, 2, 1), roomy(5, 1, 1), roomy(1, 0, 3), {nil}}[:3]
		before := whole(l)
		all, err := syzygy.Syzygies(r, 1, l)
		told := fmt.Sprint(all, err)
		if err != api.OK || len(all) < 2 {
			t.Fatalf("%s: there are more", told)
		}
		last := fmt.Sprint(all[1:])
		is, _ := syzygy.Is(r, 1, l, all[0])
		spoil(all[0])
		if again := fmt.Sprint(all[1:]); again != last {
			t.Errorf("lists of the answer share memory: %s, and was %s", again, last)
		}
		_ = append(append(all, api.Vector{}), l[0])
		if after := whole(l); after != before {
			t.Errorf("what was handed in is %s, and was %s", after, before)
		}
		all, err = syzygy.Syzygies(r, 1, l)
		if again, _ := syzygy.Is(r, 1, l, all[0]); fmt.Sprint(all, err) != told || !is || !again {
			t.Errorf("%s %v, and then %v %d %v", told, is, all, err, again)
		}
		for _, v := range l {
			spoil(v)
		}
		if again := fmt.Sprint(all, err); again != told {
			t.Errorf("kept what was handed in: %s, and then %s", told, again)
		}
	}
}

// P2: the polynomials of one vector, and the terms of one polynomial, are apart.
func TestListsOfAnswerApart(t *testing.T) {
	f, g := api.Poly{term(1, 1, 0), term(2, 0, 0)}, api.Poly{term(1, 0, 1), term(3, 0, 0)}
	all := wantSyzygies(t, plane, 1, []api.Vector{{f}, {g}})
	if len(all) != 1 || len(all[0][0]) != 2 || len(all[0][1]) != 2 {
		t.Fatalf("%v is one of two terms each", all)
	}
	last := fmt.Sprint(all[0][0][1], all[0][1])
	spoil(api.Vector{all[0][0][:1:1]})
	if again := fmt.Sprint(all[0][0][1], all[0][1]); again != last {
		t.Errorf("%s, and was %s", again, last)
	}
	last = fmt.Sprint(all[0][1])
	spoil(all[0][:1:1])
	if again := fmt.Sprint(all[0][1]); again != last {
		t.Errorf("%s, and was %s", again, last)
	}
}

// P2: what is asked is only read.
func TestAskingReadsOnly(t *testing.T) {
	l, s := []api.Vector{roomy(2, 2, 1), roomy(5, 1, 1)}, []api.Vector{{roomy(3, 1, 1)[0], roomy(4, 2, 0)[0]}}
	before := whole(l) + whole(s)
	first, err := syzygy.Is(plane, 1, l, s[0])
	second, again := syzygy.Is(plane, 1, l, s[0])
	if after := whole(l) + whole(s); after != before || first != second || err != again {
		t.Errorf("%s %v %d, and was %s %v %d", after, second, again, before, first, err)
	}
}

func Example() {
	r := api.Ring{P: 7, N: 2, Order: api.OrderReverse, Over: api.OverMono}
	l := []api.Vector{{{{C: 1, E: []int{1, 0}}}}, {{{C: 1, E: []int{0, 1}}}}}
	all, err := syzygy.Syzygies(r, 1, l)
	is, _ := syzygy.Is(r, 1, l, all[0])
	fmt.Println(all, err, is)
	// Output: [[[{6 [0 1]}] [{1 [1 0]}]]] 0 true
}
