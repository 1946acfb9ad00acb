package member_test

import (
	"fmt"
	"math"
	"slices"
	"testing"

	"syzygist/api"
	"syzygist/basis"
	"syzygist/divide"
	"syzygist/member"
	"syzygist/poly"
	"syzygist/vector"
)

var plane = api.Ring{P: 7, N: 2, Order: api.OrderReverse, Over: api.OverMono}

func term(c int, e ...int) api.Term { return api.Term{C: c, E: e} }

// one term alone.
func one(c int, e ...int) api.Poly { return api.Poly{term(c, e...)} }

// Wrong polynomials, each with an error of its own.
func wrongForm() api.Poly  { return one(1, 1) }
func wrongRange() api.Poly { return one(0, 1, 0) }
func wrongState() api.Poly { return api.Poly{term(1, 0, 1), term(1, 1, 0)} }
func wrongMany() api.Poly  { return make(api.Poly, 2001) }

// great: a polynomial that is right, but of too great a degree for a basis.
func great() api.Poly { return one(1, 4, 0) }

func over(r api.Ring, order, over int) api.Ring {
	r.Order, r.Over = order, over
	return r
}

// rings of each count of variables, in both orders, over both.
func rings() []api.Ring {
	var l []api.Ring
	for _, r := range []api.Ring{{P: 2, N: 3}, {P: 101, N: 3}, {P: 7, N: 2}, {P: 3, N: 1}} {
		for _, order := range []int{api.OrderReverse, api.OrderWords} {
			l = append(l, over(r, order, api.OverMono), over(r, order, api.OverPlace))
		}
	}
	return l
}

// drawer of numbers, the same ones each time.
type drawer uint32

func (d *drawer) next(n int) int {
	*d = *d*1664525 + 1013904223
	return int(*d>>16) % n
}

// poly of at most some terms and a degree.
func (d *drawer) poly(r api.Ring, terms, degree int) api.Poly {
	var l []api.Term
	for range d.next(terms + 1) {
		e := make([]int, r.N)
		for range d.next(degree + 1) {
			e[d.next(r.N)]++
		}
		l = append(l, term(d.next(r.P), e...))
	}
	f, _ := poly.Of(r, l)
	return f
}

// vector of a rank.
func (d *drawer) vector(r api.Ring, rank, terms, degree int) api.Vector {
	var v api.Vector
	for range rank {
		v = append(v, d.poly(r, terms, degree))
	}
	return v
}

// list of vectors of a rank.
func (d *drawer) list(r api.Ring, rank, count, terms, degree int) []api.Vector {
	var l []api.Vector
	for range count {
		l = append(l, d.vector(r, rank, terms, degree))
	}
	return l
}

func same(a, b any) bool { return fmt.Sprint(a) == fmt.Sprint(b) }

func isNothing(v api.Vector) bool {
	return !slices.ContainsFunc(v, func(f api.Poly) bool { return len(f) > 0 })
}

// wantIn of In and Lift; and what is lifted is made: G2.
func wantIn(t *testing.T, what string, r api.Ring, rank int, v api.Vector, l []api.Vector, wanted bool) {
	t.Helper()
	if in, err := member.In(r, rank, v, l); in != wanted || err != api.OK {
		t.Errorf("%s: In(%v, %d, %v, %v): %v %d, must be %v", what, r, rank, v, l, in, err, wanted)
	}
	by, in, err := member.Lift(r, rank, v, l)
	if in != wanted || err != api.OK || !wanted && by != nil {
		t.Errorf("%s: Lift(%v, %d, %v, %v): %v %v %d, must be %v", what, r, rank, v, l, by, in, err, wanted)
	}
	if !wanted {
		return
	}
	if made, err := vector.Combine(r, rank, by, l); err != api.OK || !same(made, v) {
		t.Errorf("%s: Lift(%v, %d, %v, %v): %v makes %v %d", what, r, rank, v, l, by, made, err)
	}
}

func wantSame(t *testing.T, what string, r api.Ring, rank int, a, b []api.Vector, wanted bool) {
	t.Helper()
	for _, lists := range [][2][]api.Vector{{a, b}, {b, a}} {
		if got, err := member.Same(r, rank, lists[0], lists[1]); got != wanted || err != api.OK {
			t.Errorf("%s: Same(%v, %d, %v, %v): %v %d, must be %v", what, r, rank, lists[0], lists[1], got, err, wanted)
		}
	}
}

// wantError of In and Lift.
func wantError(t *testing.T, what string, r api.Ring, rank int, v api.Vector, l []api.Vector, wanted api.Errno) {
	t.Helper()
	if in, err := member.In(r, rank, v, l); in || err != wanted {
		t.Errorf("%s: In: %v %d, must be %d", what, in, err, wanted)
	}
	if by, in, err := member.Lift(r, rank, v, l); by != nil || in || err != wanted {
		t.Errorf("%s: Lift: %v %v %d, must be %d", what, by, in, err, wanted)
	}
}

func wantSameError(t *testing.T, what string, r api.Ring, rank int, a, b []api.Vector, wanted api.Errno) {
	t.Helper()
	if got, err := member.Same(r, rank, a, b); got || err != wanted {
		t.Errorf("%s: Same: %v %d, must be %d", what, got, err, wanted)
	}
}

// G1, P1: what is wrong with the ring or the rank comes first, of all calls.
func TestErrorsOfRing(t *testing.T) {
	for _, c := range []struct {
		name string
		r    api.Ring
		rank int
		want api.Errno
	}{
		{"no ring", api.Ring{}, 1, api.ErrRange},
		{"no prime", api.Ring{P: 9, N: 2, Order: 1, Over: 1}, 0, api.ErrState},
		{"too many variables", api.Ring{P: 7, N: 4, Order: 1, Over: 1}, 0, api.ErrRange},
		{"no such order", api.Ring{P: 7, N: 2, Order: 3, Over: 1}, 0, api.ErrKind},
		{"no such over", api.Ring{P: 7, N: 2, Order: 2, Over: 0}, 0, api.ErrKind},
		{"rank 0", plane, 0, api.ErrRange},
		{"rank below 0", plane, math.MinInt, api.ErrRange},
		{"rank 41", plane, 41, api.ErrRange},
		{"rank 4", plane, 4, api.ErrMany},
	} {
		wrong := []api.Vector{{wrongForm()}}
		wantError(t, c.name, c.r, c.rank, wrong[0], nil, c.want)
		wantSameError(t, c.name, c.r, c.rank, nil, nil, c.want)
		wantSameError(t, c.name, c.r, c.rank, nil, wrong, c.want)
	}
}

// G1, P1: of the list what Check of chapter 6 says, and only then of v; of two lists that of the first one.
func TestErrors(t *testing.T) {
	x := one(1, 1, 0)
	long := slices.Repeat([]api.Vector{{x, nil}}, 5)
	seven := make([]api.Term, 0, 7)
	for _, e := range [][]int{{3, 0}, {2, 1}, {1, 2}, {0, 3}, {2, 0}, {1, 1}, {0, 2}} {
		seven = append(seven, term(1, e...))
	}
	for _, c := range []struct {
		name string
		l    []api.Vector
		want api.Errno
	}{
		{"one place", []api.Vector{{x}}, api.ErrForm},
		{"three places", []api.Vector{{x, x}, {x, x, x}}, api.ErrForm},
		{"no places", []api.Vector{nil}, api.ErrForm},
		{"monomial", []api.Vector{{nil, wrongForm()}}, api.ErrForm},
		{"coefficient", []api.Vector{{nil, wrongRange()}}, api.ErrRange},
		{"rising", []api.Vector{{nil, wrongState()}}, api.ErrState},
		{"rising, behind too great a degree", []api.Vector{{great(), wrongState()}}, api.ErrState},
		{"too many terms", []api.Vector{{wrongMany(), nil}}, api.ErrMany},
		{"seven terms", []api.Vector{{seven, nil}}, api.ErrMany},
		{"degree 4", []api.Vector{{nil, great()}}, api.ErrMany},
		{"5 vectors", long, api.ErrMany},
		{"61 vectors, the last one of no form", append(slices.Repeat([]api.Vector{{nil, nil}}, 60), nil), api.ErrMany},
	} {
		for _, other := range []api.Vector{{x, x}, {x}, {nil, wrongForm()}, {wrongRange(), nil}, {wrongState(), nil}, {great(), nil}} {
			wantError(t, c.name, plane, 2, other, c.l, c.want)
			wantSameError(t, c.name, plane, 2, c.l, []api.Vector{other}, c.want)
		}
		right := []api.Vector{{x, x}, {nil, nil}}
		wantSameError(t, "second: "+c.name, plane, 2, right, c.l, c.want)
		wantSameError(t, "second, of none: "+c.name, plane, 2, nil, c.l, c.want)
		if len(c.l) == 1 {
			wantError(t, "v: "+c.name, plane, 2, c.l[0], right, c.want)
			wantError(t, "v, of none: "+c.name, plane, 2, c.l[0], nil, c.want)
		}
	}
}

// G1: as much as may be is no error.
func TestLimits(t *testing.T) {
	six, _ := poly.Of(plane, []api.Term{term(1, 3, 0), term(1, 2, 0), term(1, 1, 0), term(1, 0, 1), term(1, 0, 2), term(1, 0, 0)})
	v := api.Vector{six, six, six}
	wantIn(t, "the greatest", plane, 3, v, slices.Repeat([]api.Vector{v}, 4), true)
	wantSame(t, "the greatest", plane, 3, []api.Vector{v}, slices.Repeat([]api.Vector{v}, 4), true)
}

// G1: what is known to be in, and what not.
func TestKnown(t *testing.T) {
	x, y, unit := one(1, 1, 0), one(1, 0, 1), one(1, 0, 0)
	mixed := api.Poly{term(3, 1, 1), term(1, 0, 1)}
	for _, r := range []api.Ring{plane, over(plane, api.OrderWords, api.OverMono), over(plane, api.OrderReverse, api.OverPlace), over(plane, api.OrderWords, api.OverPlace)} {
		for _, c := range []struct {
			name string
			rank int
			v    api.Vector
			l    []api.Vector
			want bool
		}{
			{"the document's example", 1, api.Vector{one(3, 1, 1)}, []api.Vector{{x}}, true},
			{"y, which is not", 1, api.Vector{y}, []api.Vector{{x}}, false},
			{"only a part", 1, api.Vector{mixed}, []api.Vector{{x}}, false},
			{"each part by another", 1, api.Vector{mixed}, []api.Vector{{x}, {y}}, true},
			{"nothing of none", 2, api.Vector{nil, {}}, nil, true},
			{"something of none", 2, api.Vector{nil, unit}, nil, false},
			{"nothing of nothing", 1, api.Vector{nil}, []api.Vector{{nil}, {{}}}, true},
			{"something of nothing", 1, api.Vector{x}, []api.Vector{{nil}, {nil}}, false},
			{"nothing", 1, api.Vector{nil}, []api.Vector{{x}, {nil}}, true},
			{"one of the list, behind nothing", 1, api.Vector{x}, []api.Vector{{nil}, {x}, {x}}, true},
			{"by no Lead of the list", 1, api.Vector{one(2, 0, 0)}, []api.Vector{{{term(1, 1, 0), term(1, 0, 0)}}, {{term(3, 1, 0)}}}, true},
			{"at another place", 2, api.Vector{nil, x}, []api.Vector{{x, nil}}, false},
			{"both places at once", 2, api.Vector{x, nil}, []api.Vector{{x, x}}, false},
			{"of two vectors", 2, api.Vector{nil, {term(1, 2, 0), term(6, 0, 2)}}, []api.Vector{{x, y}, {y, x}}, true},
			{"of two vectors, nearly", 2, api.Vector{nil, {term(1, 2, 0), term(1, 0, 2)}}, []api.Vector{{x, y}, {y, x}}, false},
			{"three places", 3, api.Vector{x, y, nil}, []api.Vector{{unit, nil, nil}, {nil, unit, nil}}, true},
			{"the third place", 3, api.Vector{x, y, unit}, []api.Vector{{unit, nil, nil}, {nil, unit, nil}}, false},
		} {
			wantIn(t, c.name, r, c.rank, c.v, c.l, c.want)
		}
	}
}

// G1: 1 is made of three by polynomials of great degrees.
func TestGreatDegrees(t *testing.T) {
	for _, r := range rings()[:8] {
		minus := r.P - 1
		l := []api.Vector{{one(1, 3, 0, 0)}, nil, {{term(minus, 0, 1, 2), term(1, 0, 0, 0)}}}
		f, _ := poly.Of(r, []api.Term{term(1, 1, 0, 2), term(minus, 0, 3, 0)})
		l[1] = api.Vector{f}
		wantIn(t, "1", r, 1, api.Vector{one(1, 0, 0, 0)}, l, true)
		wantIn(t, "1, without the last one", r, 1, api.Vector{one(1, 0, 0, 0)}, l[:2], false)
	}
}

// G1: what is lifted falls by the ring's own order.
func TestLiftFalls(t *testing.T) {
	for _, r := range rings()[:8] {
		f, _ := poly.Of(r, []api.Term{term(1, 1, 0, 1), term(1, 0, 2, 0), term(1, 0, 1, 1), term(1, 2, 0, 0)})
		wantIn(t, "by itself", r, 1, api.Vector{f}, []api.Vector{{nil}, {one(1, 0, 0, 0)}}, true)
		times, _ := poly.Mul(r, f, one(1, 0, 1, 0))
		wantIn(t, "times y", r, 2, api.Vector{nil, times}, []api.Vector{{nil, one(1, 0, 1, 0)}}, true)
	}
}

// scarce: a list of a rank that leaves much out, if count is not much more than the rank.
func scarce(d *drawer, r api.Ring, rank int) []api.Vector {
	return d.list(r, rank, 1+d.next(4), 3, 2)
}

// G1, G2: whatever Combine makes is in; and so is a sum of what is in.
func TestMadeIsIn(t *testing.T) {
	tried := 0
	for _, r := range rings() {
		for rank := 1; rank <= 3; rank++ {
			for seed := range 20 {
				d := drawer(100*seed + rank)
				l := scarce(&d, r, rank)
				v, _ := vector.Combine(r, rank, d.vector(r, len(l), 2, 1), l)
				w, _ := vector.Combine(r, rank, d.vector(r, len(l), 2, 1), l)
				sum, _ := vector.Add(r, v, w)
				for _, x := range []api.Vector{v, w, sum} {
					if basis.Check(r, rank, []api.Vector{x}) == api.OK && !isNothing(x) {
						wantIn(t, "made", r, rank, x, l, true)
						tried++
					}
				}
			}
		}
	}
	if tried < 1000 {
		t.Errorf("only %d were tried", tried)
	}
}

// G1: in is just what leaves nothing, divided by the basis.
func TestInLeavesNothing(t *testing.T) {
	count := [2]int{}
	for _, r := range rings() {
		for rank := 1; rank <= 3; rank++ {
			for seed := range 20 {
				d := drawer(1000 + 100*seed + rank)
				l := scarce(&d, r, rank)
				b, _, _ := basis.Basis(r, rank, l)
				for _, v := range d.list(r, rank, 4, 2, 3) {
					_, left, err := divide.Divide(r, rank, v, b)
					wantIn(t, "drawn", r, rank, v, l, err == api.OK && isNothing(left))
					if isNothing(left) {
						count[1]++
					} else {
						count[0]++
					}
				}
			}
		}
	}
	if count[0] < 500 || count[1] < 500 {
		t.Errorf("%d are not in, and %d are", count[0], count[1])
	}
}

// G1: modules that are known to be the same, or not.
func TestSameKnown(t *testing.T) {
	x, y, unit := one(1, 1, 0), one(1, 0, 1), one(1, 0, 0)
	none, nothing := []api.Vector(nil), []api.Vector{{nil}, {nil}}
	for _, over := range []int{api.OverMono, api.OverPlace} {
		r := api.Ring{P: 7, N: 2, Order: api.OrderWords, Over: over}
		wantSame(t, "none", r, 1, none, none, true)
		wantSame(t, "none, and nothing", r, 1, none, nothing, true)
		wantSame(t, "none, and x", r, 1, none, []api.Vector{{x}}, false)
		wantSame(t, "nothing, and 1", r, 1, nothing, []api.Vector{{unit}}, false)
		wantSame(t, "x, and 2*x", r, 1, []api.Vector{{x}}, []api.Vector{{one(2, 1, 0)}}, true)
		wantSame(t, "x, and x^2", r, 1, []api.Vector{{x}}, []api.Vector{{one(1, 2, 0)}}, false)
		wantSame(t, "x, and y", r, 1, []api.Vector{{x}}, []api.Vector{{y}}, false)
		wantSame(t, "x, and x with y", r, 1, []api.Vector{{x}}, []api.Vector{{x}, {y}}, false)
		wantSame(t, "x and y, and y and x + y", r, 1, []api.Vector{{x}, {y}}, []api.Vector{{y}, {{term(1, 1, 0), term(1, 0, 1)}}}, true)
		wantSame(t, "1, and x with x + 1", r, 1, []api.Vector{{unit}}, []api.Vector{{x}, {{term(1, 1, 0), term(1, 0, 0)}}}, true)
		wantSame(t, "places", r, 2, []api.Vector{{x, nil}}, []api.Vector{{nil, x}}, false)
		wantSame(t, "places, one way round and the other", r, 2, []api.Vector{{x, nil}, {nil, y}}, []api.Vector{{nil, y}, {x, y}}, true)
	}
}

// G1, G2: the same just if each one's vectors are in the other one, and just if both have the same basis.
func TestSame(t *testing.T) {
	count := [2]int{}
	for _, r := range rings() {
		for rank := 1; rank <= 3; rank++ {
			for seed := range 10 {
				d := drawer(2000 + 100*seed + rank)
				a := scarce(&d, r, rank)
				sum, _ := vector.Add(r, a[0], a[len(a)-1])
				unlike := append(slices.Clone(a[1:]), d.vector(r, rank, 2, 2))
				for _, b := range [][]api.Vector{append(slices.Clone(a[1:]), sum), unlike, {a[0]}, scarce(&d, r, rank)} {
					one, _, _ := basis.Basis(r, rank, a)
					other, _, _ := basis.Basis(r, rank, b)
					wantSame(t, "drawn", r, rank, a, b, same(one, other))
					if got := allIn(r, rank, a, b) && allIn(r, rank, b, a); got != same(one, other) {
						t.Errorf("%v: %v and %v are in each other: %v", r, a, b, got)
					}
					if same(one, other) {
						count[1]++
					} else {
						count[0]++
					}
				}
			}
		}
	}
	if count[0] < 300 || count[1] < 300 {
		t.Errorf("%d are not the same, and %d are", count[0], count[1])
	}
}

// allIn: are all vectors of a list in the module of another one?
func allIn(r api.Ring, rank int, vectors, l []api.Vector) bool {
	for _, v := range vectors {
		if in, _ := member.In(r, rank, v, l); !in {
			return false
		}
	}
	return true
}

// G1, P1: lists that are as great as they may be, whatever the order.
func TestGreatest(t *testing.T) {
	for _, r := range rings()[:8] {
		for rank := 1; rank <= 3; rank++ {
			d := drawer(3000 + rank)
			l := d.full(r, rank)
			for i, v := range l {
				w, _ := vector.Add(r, v, l[(i+1)%4])
				if basis.Check(r, rank, []api.Vector{w}) == api.OK {
					wantIn(t, "a sum", r, rank, w, l, true)
				}
			}
			wantIn(t, "one of all", r, rank, l[3], l, true)
			wantSame(t, "all, and fewer", r, rank, l, l[:2], false)
			wantSame(t, "all, turned", r, rank, l, []api.Vector{l[3], l[1], l[0], l[2]}, true)
		}
	}
}

// full: four vectors, each polynomial with six terms, if there are so many, of all degrees up to 3.
func (d *drawer) full(r api.Ring, rank int) []api.Vector {
	l := make([]api.Vector, 4)
	for i := range l {
		for range rank {
			var f []api.Term
			for k := range 6 {
				e := make([]int, r.N)
				for range min(k, 3) {
					e[d.next(r.N)]++
				}
				f = append(f, term(1+d.next(r.P-1), e...))
			}
			g, _ := poly.Of(r, f)
			l[i] = append(l[i], g)
		}
	}
	return l
}

// roomy: a vector with spare room behind each of its lists.
func roomy(c int, e ...int) api.Vector {
	first, second := append(e, -5), []int{0, 1, -6}
	f := api.Poly{{C: c, E: first[:2]}, {C: 3, E: second[:2]}, {C: -8, E: []int{-8}}}
	return api.Vector{f[:2], one(-7, -7)}[:1]
}

// whole: what stands in the room of vectors.
func whole(l []api.Vector) string {
	s := fmt.Sprint(l[:cap(l)])
	for _, v := range l {
		s += fmt.Sprint(v[:cap(v)])
		for _, f := range v {
			s += fmt.Sprint(f[:cap(f)])
			for _, t := range f {
				s += fmt.Sprint(t.E[:cap(t.E)])
			}
		}
	}
	return s
}

// spoil all of polynomials, their room too.
func spoil(polys []api.Poly) {
	for i, f := range polys {
		for k := range f {
			f[k].C = 77
			for n := range f[k].E {
				f[k].E[n] = 88
			}
			_ = append(f[k].E, 99)
		}
		polys[i] = append(f, term(99))[:len(f)]
	}
	_ = append(polys, one(99))
}

// P2, P3: what is handed in is only read; what is answered is new memory, each list of it by itself, and the same each time.
func TestReadsOnlyAnswersNew(t *testing.T) {
	l := []api.Vector{roomy(2, 2, 1), roomy(5, 1, 1), {nil}}[:2]
	sum := api.Poly{term(2, 2, 1), term(5, 1, 1), term(6, 0, 1), term(-3)}
	v := []api.Vector{{sum[:3]}, {nil}}[:1]
	before := whole(l) + whole(v)
	by, in, err := member.Lift(plane, 1, v[0], l)
	told := fmt.Sprint(by, in, err)
	if !in || err != api.OK || len(by) != 2 || len(by[0]) == 0 || len(by[1]) == 0 {
		t.Fatalf("%s: it is the sum of both", told)
	}
	first, _ := member.In(plane, 1, v[0], l)
	alike, _ := member.Same(plane, 1, l, v)
	last := fmt.Sprint(by[1])
	spoil(by[:1:1])
	if again := fmt.Sprint(by[1]); again != last {
		t.Errorf("lists of the answer share memory: %s, and was %s", again, last)
	}
	spoil(by)
	if after := whole(l) + whole(v); after != before {
		t.Errorf("what was handed in is %s, and was %s", after, before)
	}
	by, in, err = member.Lift(plane, 1, v[0], l)
	second, _ := member.In(plane, 1, v[0], l)
	again, _ := member.Same(plane, 1, l, v)
	if fmt.Sprint(by, in, err) != told || first != second || alike != again {
		t.Errorf("%s %v %v, and then %v %v %d %v %v", told, first, alike, by, in, err, second, again)
	}
	spoil(l[0])
	spoil(v[0])
	if again := fmt.Sprint(by, in, err); again != told {
		t.Errorf("kept what was handed in: %s, and then %s", told, again)
	}
}

// P2: a vector that is handed in is not what comes out, even where it is told by itself.
func TestListsOfAnswerApart(t *testing.T) {
	f := api.Poly{term(2, 1, 0), term(3, 0, 0)}
	l := []api.Vector{{one(1, 0, 0)}}
	by, _, _ := member.Lift(plane, 1, api.Vector{f}, l)
	if !same(by, []api.Poly{f}) {
		t.Fatalf("%v, must be %v", by, f)
	}
	last := fmt.Sprint(by[0][1])
	spoil([]api.Poly{by[0][:1:1]})
	if again := fmt.Sprint(by[0][1]); again != last || f[0].C != 2 || f[0].E[0] != 1 || l[0][0][0].E[0] != 0 {
		t.Errorf("%s, and was %s: of %v and %v", again, last, f, l)
	}
}

func Example() {
	r := api.Ring{P: 7, N: 2, Order: api.OrderReverse, Over: api.OverMono}
	x, y := api.Poly{{C: 1, E: []int{1, 0}}}, api.Poly{{C: 1, E: []int{0, 1}}}
	l := []api.Vector{{x}}
	fmt.Println(member.Lift(r, 1, api.Vector{{{C: 3, E: []int{1, 1}}}}, l))
	fmt.Println(member.In(r, 1, api.Vector{y}, l))
	fmt.Println(member.Same(r, 1, l, []api.Vector{{x}, {y}}))
	// Output:
	// [[{3 [0 1]}]] true 0
	// false 0
	// false 0
}
