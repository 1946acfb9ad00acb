package basis_test

import (
	"fmt"
	"math"
	"slices"
	"testing"

	"syzygist/api"
	"syzygist/basis"
	"syzygist/divide"
	"syzygist/mono"
	"syzygist/poly"
	"syzygist/vector"
)

var plane = api.Ring{P: 7, N: 2, Order: api.OrderReverse, Over: api.OverMono}

func term(c int, e ...int) api.Term { return api.Term{C: c, E: e} }

// one term alone.
func one(c int, e ...int) api.Poly { return api.Poly{term(c, e...)} }

// Wrong polynomials, each with an error of its own.
func wrongForm() api.Poly  { return one(1, 1) }
func wrongRange() api.Poly { return one(0, 1, 0) }
func wrongState() api.Poly { return api.Poly{term(1, 0, 1), term(1, 1, 0)} }
func wrongMany() api.Poly  { return make(api.Poly, 2001) }

func over(r api.Ring, order, over int) api.Ring {
	r.Order, r.Over = order, over
	return r
}

// rings of each count of variables, in both orders, over both.
func rings() []api.Ring {
	var l []api.Ring
	for _, r := range []api.Ring{{P: 2, N: 3}, {P: 101, N: 3}, {P: 7, N: 2}, {P: 3, N: 1}} {
		for _, order := range []int{api.OrderReverse, api.OrderWords} {
			l = append(l, over(r, order, api.OverMono), over(r, order, api.OverPlace))
		}
	}
	return l
}

// drawer of numbers, the same ones each time.
type drawer uint32

func (d *drawer) next(n int) int {
	*d = *d*1664525 + 1013904223
	return int(*d>>16) % n
}

// poly of at most some terms and a degree.
func (d *drawer) poly(r api.Ring, terms, degree int) api.Poly {
	var l []api.Term
	for range d.next(terms + 1) {
		e := make([]int, r.N)
		for range d.next(degree + 1) {
			e[d.next(r.N)]++
		}
		l = append(l, term(d.next(r.P), e...))
	}
	f, _ := poly.Of(r, l)
	return f
}

// list of vectors of a rank.
func (d *drawer) list(r api.Ring, rank, count, terms, degree int) []api.Vector {
	l := make([]api.Vector, count)
	for i := range l {
		for range rank {
			l[i] = append(l[i], d.poly(r, terms, degree))
		}
	}
	return l
}

func same(a, b any) bool { return fmt.Sprint(a) == fmt.Sprint(b) }

func isNothing(v api.Vector) bool {
	return !slices.ContainsFunc(v, func(f api.Poly) bool { return len(f) > 0 })
}

// wantBasis without an error; how its vectors are made is held to F2.
func wantBasis(t *testing.T, r api.Ring, rank int, l []api.Vector) []api.Vector {
	t.Helper()
	b, by, err := basis.Basis(r, rank, l)
	if err != api.OK || len(by) != len(b) {
		t.Fatalf("Basis(%v, %d, %v): %v %v %d", r, rank, l, b, by, err)
	}
	for i, v := range b {
		if made, err := vector.Combine(r, rank, by[i], l); err != api.OK || !same(made, v) {
			t.Errorf("Basis(%v, %d, %v): %v is made to %v %d by %v", r, rank, l, v, made, err, by[i])
		}
	}
	return b
}

func wantIs(t *testing.T, what string, r api.Ring, rank int, l []api.Vector, wanted bool, wantErr api.Errno) {
	t.Helper()
	if got, err := basis.IsBasis(r, rank, l); got != wanted || err != wantErr {
		t.Errorf("%s: IsBasis(%v, %d, %v): %v %d, must be %v %d", what, r, rank, l, got, err, wanted, wantErr)
	}
}

// wantError of the calls that have the limits of a basis.
func wantError(t *testing.T, what string, r api.Ring, rank int, l []api.Vector, wanted api.Errno) {
	t.Helper()
	if err := basis.Check(r, rank, l); err != wanted {
		t.Errorf("%s: Check: %d, must be %d", what, err, wanted)
	}
	if b, by, err := basis.Basis(r, rank, l); err != wanted || wanted != api.OK && (b != nil || by != nil) {
		t.Errorf("%s: Basis: %v %v %d, must be %d", what, b, by, err, wanted)
	}
}

// F2, F3, P1: errors of chapter 4 come first, of all calls.
func TestErrorsOfVectors(t *testing.T) {
	long := slices.Repeat([]api.Vector{{nil}}, 61)
	for _, c := range []struct {
		name string
		r    api.Ring
		rank int
		l    []api.Vector
		want api.Errno
	}{
		{"no ring", api.Ring{}, 0, nil, api.ErrRange},
		{"no prime", api.Ring{P: 9, N: 2, Order: 1, Over: 1}, 0, nil, api.ErrState},
		{"too many variables", api.Ring{P: 7, N: 4, Order: 1, Over: 1}, 0, nil, api.ErrRange},
		{"no such order", api.Ring{P: 7, N: 2, Order: 0, Over: 1}, 0, nil, api.ErrKind},
		{"no such over", api.Ring{P: 7, N: 2, Order: 2, Over: 3}, 0, nil, api.ErrKind},
		{"rank 0", plane, 0, long, api.ErrRange},
		{"rank below 0", plane, math.MinInt, nil, api.ErrRange},
		{"rank 41", plane, 41, nil, api.ErrRange},
		{"too many vectors", plane, 2, long, api.ErrMany},
		{"form, of too many for a basis", plane, 1, make([]api.Vector, 31), api.ErrForm},
		{"form, of too great a rank for a basis", plane, 4, []api.Vector{{nil}}, api.ErrForm},
		{"state behind too great a degree", plane, 1, []api.Vector{{one(1, 41, 0)}, {wrongState()}}, api.ErrState},
		{"coefficient, with too great a degree", plane, 1, []api.Vector{{one(9, 41, 0)}}, api.ErrRange},
		{"coefficient", plane, 2, []api.Vector{{nil, wrongRange()}}, api.ErrRange},
		{"monomial", plane, 2, []api.Vector{{nil, wrongForm()}}, api.ErrForm},
		{"too many terms", plane, 1, []api.Vector{{wrongMany()}}, api.ErrMany},
	} {
		wantError(t, c.name, c.r, c.rank, c.l, c.want)
		wantIs(t, c.name, c.r, c.rank, c.l, false, c.want)
	}
}

// F2: the limits of what a basis is asked for: just within them, and just over each.
func TestLimits(t *testing.T) {
	x := one(1, 1, 0)
	six, _ := poly.Of(plane, []api.Term{term(1, 3, 0), term(1, 2, 0), term(1, 1, 0), term(1, 0, 1), term(1, 0, 2), term(1, 0, 0)})
	seven, _ := poly.Of(plane, append(slices.Clone(six), term(1, 1, 1)))
	for _, c := range []struct {
		name string
		rank int
		l    []api.Vector
		want api.Errno
	}{
		{"none", 1, nil, api.OK},
		{"none of rank 3", 3, nil, api.OK},
		{"none of rank 4", 4, nil, api.ErrMany},
		{"rank 3", 3, []api.Vector{{x, x, x}}, api.OK},
		{"rank 4", 4, []api.Vector{{x, x, x, x}}, api.ErrMany},
		{"rank 40", 40, []api.Vector{make(api.Vector, 40)}, api.ErrMany},
		{"4 vectors", 1, []api.Vector{{x}, {x}, {x}, {x}}, api.OK},
		{"5 vectors", 1, []api.Vector{{x}, {x}, {x}, {x}, {x}}, api.ErrMany},
		{"5 vectors without terms", 1, empties(5), api.ErrMany},
		{"6 terms", 1, []api.Vector{{six}}, api.OK},
		{"7 terms", 2, []api.Vector{{nil, seven}}, api.ErrMany},
		{"degree 3", 2, []api.Vector{{one(1, 1, 2), one(1, 0, 3)}}, api.OK},
		{"degree 4", 2, []api.Vector{{nil, nil}, {nil, one(1, 2, 2)}}, api.ErrMany},
		{"degree 4 of the first one", 2, []api.Vector{{one(1, 4, 0), nil}, {nil, nil}}, api.ErrMany},
	} {
		wantError(t, c.name, plane, c.rank, c.l, c.want)
	}
}

// empties: vectors of rank 1 without terms.
func empties(count int) []api.Vector { return slices.Repeat([]api.Vector{{nil}}, count) }

// F3: the limits of IsBasis: just within them, and just over each.
func TestIsBasisLimits(t *testing.T) {
	wantIs(t, "30 vectors", plane, 1, empties(30), true, api.OK)
	wantIs(t, "31 vectors", plane, 1, empties(31), false, api.ErrMany)
	wantIs(t, "degree 40", plane, 1, []api.Vector{{one(1, 20, 20)}}, true, api.OK)
	wantIs(t, "degree 41", plane, 1, []api.Vector{{one(1, 20, 21)}}, false, api.ErrMany)
	wantIs(t, "degree 41 at the end", plane, 2, []api.Vector{{nil, nil}, {nil, one(1, 0, 41)}}, false, api.ErrMany)
	wantIs(t, "rank 40", plane, 40, []api.Vector{make(api.Vector, 40)}, true, api.OK)
	r := api.Ring{P: 2, N: 3, Order: api.OrderReverse, Over: api.OverMono}
	var many []api.Term
	for i := range 2000 {
		many = append(many, term(1, i/200, i/10%20, i%10))
	}
	f, _ := poly.Of(r, many)
	wantIs(t, "2000 terms", r, 1, []api.Vector{{f}, {f}}, true, api.OK)
}

// F1, F2: reduced bases that are known.
func TestKnown(t *testing.T) {
	space := api.Ring{P: 7, N: 3, Order: api.OrderReverse, Over: api.OverMono}
	words := over(space, api.OrderWords, api.OverMono)
	// The curve of all (t, t^2, t^3).
	curve := []api.Vector{{{term(1, 2, 0, 0), term(6, 0, 1, 0)}}, {{term(1, 3, 0, 0), term(6, 0, 0, 1)}}}
	x, y := one(1, 1, 0), one(1, 0, 1)
	place := over(plane, api.OrderReverse, api.OverPlace)
	for _, c := range []struct {
		name string
		r    api.Ring
		rank int
		l    []api.Vector
		want []api.Vector
	}{
		{"of none", plane, 2, nil, nil},
		{"of nothing", plane, 2, []api.Vector{{nil, nil}, {{}, nil}}, nil},
		{"the document's example", plane, 1, []api.Vector{{one(2, 1, 0)}}, []api.Vector{{x}}},
		{"one twice", plane, 1, []api.Vector{{x}, {one(3, 1, 0)}}, []api.Vector{{x}}},
		{"they fall", plane, 1, []api.Vector{{y}, {x}}, []api.Vector{{x}, {y}}},
		{"all", plane, 1, []api.Vector{{one(3, 2, 0)}, {{term(1, 1, 0), term(1, 0, 0)}}}, []api.Vector{{one(1, 0, 0)}}},
		{"curve", space, 1, curve, []api.Vector{
			{{term(1, 2, 0, 0), term(6, 0, 1, 0)}}, {{term(1, 1, 1, 0), term(6, 0, 0, 1)}}, {{term(1, 0, 2, 0), term(6, 1, 0, 1)}}}},
		{"curve, by words", words, 1, curve, []api.Vector{
			{{term(1, 0, 3, 0), term(6, 0, 0, 2)}}, {{term(1, 2, 0, 0), term(6, 0, 1, 0)}}, {{term(1, 1, 1, 0), term(6, 0, 0, 1)}}, {{term(1, 1, 0, 1), term(6, 0, 2, 0)}}}},
		{"by the monomial", plane, 2, []api.Vector{{x, y}, {y, x}}, []api.Vector{{x, y}, {y, x}}},
		{"by the place", place, 2, []api.Vector{{x, y}, {y, x}}, []api.Vector{{x, y}, {y, x}, {nil, {term(1, 2, 0), term(6, 0, 2)}}}},
		{"by the place, all of it", place, 2, []api.Vector{{one(2, 0, 0), x}, {one(1, 0, 0), y}, {nil, one(1, 0, 1)}}, []api.Vector{{one(1, 0, 0), nil}, {nil, x}, {nil, y}}},
		{"gone by another one's", plane, 2, []api.Vector{{one(1, 2, 0), nil}, {x, y}}, []api.Vector{{nil, one(1, 1, 1)}, {x, y}}},
	} {
		if got := wantBasis(t, c.r, c.rank, c.l); !same(got, c.want) {
			t.Errorf("%s: %v, must be %v", c.name, got, c.want)
		}
	}
}

// wantReduced: F1, of a list that is a basis.
func wantReduced(t *testing.T, r api.Ring, rank int, b []api.Vector) {
	t.Helper()
	for i, v := range b {
		at, lead, err := vector.Lead(r, v)
		if err != api.OK || lead.C != 1 {
			t.Errorf("%v: %v has the Lead %v %d", r, b, lead, err)
		}
		if normal, _ := divide.Normal(r, rank, v, slices.Delete(slices.Clone(b), i, i+1)); !normal {
			t.Errorf("%v: %v: number %d is not Normal by the others", r, b, i)
		}
		if i > 0 && !falls(r, b[i-1], at, lead) {
			t.Errorf("%v: %v: number %d does not fall", r, b, i)
		}
	}
}

// falls: is the Lead of a vector more than a term at a place?
func falls(r api.Ring, v api.Vector, at int, t api.Term) bool {
	place, lead, _ := vector.Lead(r, v)
	if r.Over == api.OverPlace && place != at {
		return place < at
	}
	order, _ := mono.Order(r, lead.E, t.E)
	return order > 0 || order == 0 && place < at
}

// wantLeavesNothing of vectors, divided by a basis.
func wantLeavesNothing(t *testing.T, r api.Ring, rank int, l, b []api.Vector) {
	t.Helper()
	for _, v := range l {
		if _, left, err := divide.Divide(r, rank, v, b); err != api.OK || !isNothing(left) {
			t.Errorf("%v: %v by %v leaves %v %d", r, v, b, left, err)
		}
	}
}

// F1, F2, F4: of whatever lists, in all rings: reduced, a basis, and of the same module.
func TestBasis(t *testing.T) {
	for _, r := range rings() {
		for rank := 1; rank <= 3; rank++ {
			for seed := range 15 {
				d := drawer(100*seed + rank)
				l := d.list(r, rank, seed%4+1, 4, 2)
				b := wantBasis(t, r, rank, l)
				wantReduced(t, r, rank, b)
				wantIs(t, "a basis", r, rank, b, true, api.OK)
				if !pairsLeaveNothing(r, rank, b) {
					t.Errorf("%v: of %v it is %v, which is none", r, l, b)
				}
				wantLeavesNothing(t, r, rank, l, b)
				for range 3 {
					v, _ := vector.Combine(r, rank, d.list(r, len(l), 1, 3, 4)[0], l)
					wantLeavesNothing(t, r, rank, []api.Vector{v}, b)
				}
			}
		}
	}
}

// F1: each module has just one: in another order, scaled, with one added to another, and with more of it.
func TestJustOne(t *testing.T) {
	for _, r := range rings() {
		for rank := 1; rank <= 3; rank++ {
			for seed := range 8 {
				d := drawer(1000 + 100*seed + rank)
				l := d.list(r, rank, 3, 2, 2)
				wanted := wantBasis(t, r, rank, l)
				sum, _ := vector.Add(r, l[0], l[1])
				scaled, _ := vector.Scale(r, api.Poly{{C: r.P - 1, E: make([]int, r.N)}}, l[2])
				for _, other := range [][]api.Vector{{l[2], l[0], l[1]}, {sum, l[1], scaled}, {l[0], l[1], l[2], sum}} {
					if got := wantBasis(t, r, rank, other); !same(got, wanted) {
						t.Errorf("%v: of %v: %v, and of %v: %v", r, l, wanted, other, got)
					}
				}
			}
		}
	}
}

// F4: the basis of a basis is it.
func TestBasisOfBasis(t *testing.T) {
	tried := 0
	for _, r := range rings() {
		for seed := range 60 {
			d := drawer(2000 + seed)
			rank := seed%3 + 1
			b := wantBasis(t, r, rank, d.list(r, rank, 2, 2, 2))
			if basis.Check(r, rank, b) != api.OK {
				continue
			}
			tried++
			if again := wantBasis(t, r, rank, b); !same(again, b) {
				t.Errorf("%v: of %v: %v", r, b, again)
			}
		}
	}
	if tried < 400 {
		t.Errorf("only %d were tried", tried)
	}
}

// pairsLeaveNothing: is a list a basis, by all pairs of it, and by the calls of the layers ahead?
func pairsLeaveNothing(r api.Ring, rank int, l []api.Vector) bool {
	for i, v := range l {
		for _, w := range l[:i] {
			at, one, err := vector.Lead(r, v)
			place, other, none := vector.Lead(r, w)
			if err != api.OK || none != api.OK || at != place {
				continue
			}
			least, _ := mono.Least(r, one.E, other.E)
			to, _ := mono.Over(r, least, one.E)
			too, _ := mono.Over(r, least, other.E)
			first, _ := vector.Scale(r, api.Poly{{C: other.C, E: to}}, v)
			second, _ := vector.Scale(r, api.Poly{{C: r.P - one.C, E: too}}, w)
			between, _ := vector.Add(r, first, second)
			if _, left, err := divide.Divide(r, rank, between, l); err != api.OK || !isNothing(left) {
				return false
			}
		}
	}
	return true
}

// F3: just those lists of which all pairs leave nothing, those that are not reduced too.
func TestIsBasis(t *testing.T) {
	count := [2]int{}
	for _, r := range rings() {
		for rank := 1; rank <= 4; rank++ {
			for seed := range 60 {
				d := drawer(3000 + 100*seed + rank)
				l := d.list(r, rank, seed%4+1, 2, 2)
				wanted := pairsLeaveNothing(r, rank, l)
				wantIs(t, "drawn", r, rank, l, wanted, api.OK)
				if wanted {
					count[1]++
				} else {
					count[0]++
				}
			}
		}
	}
	if count[0] < 300 || count[1] < 300 {
		t.Errorf("%d are none, and %d are", count[0], count[1])
	}
}

// F3: it need not be reduced; and one that is lacking is told.
func TestIsBasisUnreduced(t *testing.T) {
	for _, r := range rings() {
		for seed := range 10 {
			d := drawer(4000 + seed)
			l := d.list(r, 2, 3, 3, 2)
			b := wantBasis(t, r, 2, l)
			wantIs(t, "with more of the module", r, 2, slices.Concat(l, b, l), true, api.OK)
			for i := range b {
				lacking := slices.Delete(slices.Clone(b), i, i+1)
				wantIs(t, "without one, but with the list", r, 2, append(lacking, l...), pairsLeaveNothing(r, 2, append(lacking, l...)), api.OK)
			}
		}
	}
	x, y := one(1, 1, 0), one(1, 0, 1)
	wantIs(t, "none", plane, 3, nil, true, api.OK)
	wantIs(t, "without terms between", plane, 1, []api.Vector{{x}, {nil}, {one(3, 0, 1)}}, true, api.OK)
	wantIs(t, "one of two places", plane, 2, []api.Vector{{x, y}, {y, x}}, true, api.OK)
	wantIs(t, "by the place", over(plane, api.OrderReverse, api.OverPlace), 2, []api.Vector{{x, y}, {y, x}}, false, api.OK)
	wantIs(t, "with the same Leads", plane, 1, []api.Vector{{x}, {{term(1, 1, 0), term(1, 0, 0)}}}, false, api.OK)
}

// F3: many vectors of great degrees: all monomials of one degree, and these with something behind.
func TestIsBasisWide(t *testing.T) {
	r := api.Ring{P: 101, N: 3, Order: api.OrderWords, Over: api.OverPlace}
	var l, behind []api.Vector
	for a := range 30 {
		e := []int{a, 40 - a, 0}
		l = append(l, api.Vector{nil, one(1, e...), nil})
		behind = append(behind, api.Vector{nil, one(1, e...), one(1, 0, 0, a)})
	}
	wantIs(t, "monomials", r, 3, l, true, api.OK)
	wantIs(t, "with something behind", r, 3, behind, false, api.OK)
}

// F2, P1: as many vectors, of as great a rank and degree and with as many terms as may be.
func TestGreatest(t *testing.T) {
	for _, r := range []api.Ring{{P: 101, N: 3}, {P: 2, N: 3}, {P: 3, N: 2}} {
		for _, order := range []int{api.OrderReverse, api.OrderWords} {
			for rank := 1; rank <= 3; rank++ {
				d := drawer(5000 + rank)
				mono := over(r, order, api.OverMono)
				wantBasis(t, mono, rank, d.full(mono, rank))
				if order == api.OrderReverse || rank < 3 {
					place := over(r, order, api.OverPlace)
					wantBasis(t, place, rank, d.full(place, rank))
				}
			}
		}
	}
}

// full: four vectors, each polynomial with six terms, if there are so many, of all degrees up to 3.
func (d *drawer) full(r api.Ring, rank int) []api.Vector {
	l := make([]api.Vector, 4)
	for i := range l {
		for range rank {
			var f []api.Term
			for k := range 6 {
				e := make([]int, r.N)
				for range min(k, 3) {
					e[d.next(r.N)]++
				}
				f = append(f, term(1+d.next(r.P-1), e...))
			}
			g, _ := poly.Of(r, f)
			l[i] = append(l[i], g)
		}
	}
	return l
}

// roomy: a vector with spare room behind each of its lists.
func roomy(e ...int) api.Vector {
	first, second := append(e, -5), []int{0, 1, -6}
	f := api.Poly{{C: 2, E: first[:2]}, {C: 3, E: second[:2]}, {C: -8, E: []int{-8}}}
	return api.Vector{f[:2], one(-7, -7)}[:1]
}

// whole: what stands in the room of vectors.
func whole(l []api.Vector) string {
	s := fmt.Sprint(l[:cap(l)])
	for _, v := range l {
		s += fmt.Sprint(v[:cap(v)])
		for _, f := range v {
			s += fmt.Sprint(f[:cap(f)])
			for _, t := range f {
				s += fmt.Sprint(t.E[:cap(t.E)])
			}
		}
	}
	return s
}

// spoil all of a vector, its room too.
func spoil(v api.Vector) {
	for i, f := range v {
		for k := range f {
			f[k].C = 77
			for n := range f[k].E {
				f[k].E[n] = 88
			}
			_ = append(f[k].E, 99)
		}
		v[i] = append(f, term(99))[:len(f)]
	}
	_ = append(v, one(99))
}

// P2, P3: what is handed in is only read; what is answered is new memory, each list of it by itself, and the same each time.
func TestReadsOnlyAnswersNew(t *testing.T) {
	l := []api.Vector{roomy(2, 1), roomy(0, 3), {nil}}[:2]
	before := whole(l)
	b, by, err := basis.Basis(plane, 1, l)
	told := fmt.Sprint(b, by, err)
	basis.IsBasis(plane, 1, l)
	basis.Check(plane, 1, l)
	toldBy, toldLast := fmt.Sprint(by), fmt.Sprint(by[1:], b[1:])
	spoil(b[0])
	if again := fmt.Sprint(by[1:], b[1:]); again != toldLast || fmt.Sprint(by) != toldBy {
		t.Errorf("lists of the answer share memory: %s, and was %s", again, toldLast)
	}
	spoil(api.Vector(by[0]))
	if again := fmt.Sprint(by[1:], b[1:]); again != toldLast {
		t.Errorf("lists of the answer share memory: %s, and was %s", again, toldLast)
	}
	_ = append(append(b, api.Vector{}), by[1])
	if after := whole(l); after != before {
		t.Errorf("what was handed in is %s, and was %s", after, before)
	}
	b, by, err = basis.Basis(plane, 1, l)
	if again := fmt.Sprint(b, by, err); again != told || len(b) != 2 {
		t.Errorf("%s, and then %s", told, again)
	}
	spoil(l[0])
	spoil(l[1])
	if again := fmt.Sprint(b, by, err); again != told {
		t.Errorf("kept what was handed in: %s, and then %s", told, again)
	}
}

func Example() {
	r := api.Ring{P: 7, N: 2, Order: api.OrderReverse, Over: api.OverMono}
	l := []api.Vector{{{{C: 2, E: []int{1, 0}}}}}
	b, by, err := basis.Basis(r, 1, l)
	is, _ := basis.IsBasis(r, 1, b)
	fmt.Println(b, by, err, is)
	// Output: [[[{1 [1 0]}]]] [[[{4 [0 0]}]]] 0 true
}
