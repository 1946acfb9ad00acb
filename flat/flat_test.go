package flat_test

import (
	"cmp"
	"fmt"
	"slices"
	"testing"

	"syzygist/api"
	"syzygist/bare"
	"syzygist/flat"
	"syzygist/vector"
)

var plane = api.Ring{P: 7, N: 2, Order: api.OrderReverse, Over: api.OverMono}

func term(c int, e ...int) api.Term { return api.Term{C: c, E: e} }

// one term alone.
func one(c int, e ...int) api.Poly { return api.Poly{term(c, e...)} }

// rings of each count of variables, in both orders, over both.
func rings() []api.Ring {
	var l []api.Ring
	for n := 1; n <= 3; n++ {
		for _, order := range []int{api.OrderReverse, api.OrderWords} {
			for _, over := range []int{api.OverMono, api.OverPlace} {
				l = append(l, api.Ring{P: 101, N: n, Order: order, Over: over})
			}
		}
	}
	return l
}

// upTo: all monomials of n variables of at most a degree.
func upTo(n, degree int) [][]int {
	if n == 0 {
		return [][]int{{}}
	}
	var l [][]int
	for x := range degree + 1 {
		for _, rest := range upTo(n-1, degree-x) {
			l = append(l, append([]int{x}, rest...))
		}
	}
	return l
}

// order of two terms at places, of which rank are ahead, and the others behind these.
func order(r api.Ring, rank int, place int, e []int, other int, f []int) int {
	if (place < rank) != (other < rank) {
		return cmp.Compare(other, place)
	}
	byPlace, byMono := cmp.Compare(other, place), bare.Compare(r, e, f)
	if r.Over == api.OverPlace && place < rank {
		return cmp.Or(byPlace, byMono)
	}
	return cmp.Or(byMono, byPlace)
}

// D2: of two terms the greater one has the greater key, of whatever places and degrees.
func TestKeys(t *testing.T) {
	for _, r := range rings() {
		o := flat.NewOrder(r, 2, 2)
		monomials := upTo(r.N, 3)
		for i, great := range []int{400, 1700, 10000} {
			e := make([]int, r.N)
			e[i%r.N] = great
			monomials = append(monomials, e)
			f := slices.Clone(e)
			f[r.N-1]++
			monomials = append(monomials, f)
		}
		for place := range 4 {
			for _, e := range monomials {
				for other := range 4 {
					for _, f := range monomials {
						a, b := o.Term(place, term(1, e...)), o.Term(other, term(2, f...))
						if got, wanted := cmp.Compare(a.Key, b.Key), order(r, 2, place, e, other, f); got != wanted {
							t.Fatalf("%v: %v at %d and %v at %d: %d, must be %d", r, e, place, f, other, got, wanted)
						}
					}
				}
			}
		}
	}
}

// As many places as there may be have keys of their own.
func TestPlaces(t *testing.T) {
	for _, r := range rings() {
		o := flat.NewOrder(r, 40, 60)
		for place := range 99 {
			if a, b := o.Unit(place), o.Unit(place+1); a.Key <= b.Key || int(a.Place) != place || a.C != 1 {
				t.Errorf("%v: 1 at %d is %v, and behind it %v", r, place, a, b)
			}
		}
	}
}

// compareBools: false is less than true.
func compareBools(a, b bool) int {
	if a == b {
		return 0
	}
	if b {
		return -1
	}
	return 1
}

// compareTwo exponents, by the ring's order: those of the last two of three variables, or of the first two.
func compareTwo(r api.Ring, e, f []int) int {
	e, f = append(slices.Clone(e), 0, 0), append(slices.Clone(f), 0, 0)
	if r.Order == api.OrderReverse {
		return cmp.Or(cmp.Compare(f[2], e[2]), cmp.Compare(f[1], e[1]))
	}
	return cmp.Or(cmp.Compare(e[0], f[0]), cmp.Compare(e[1], f[1]))
}

// Where the places have degrees of their own, that of a term counts first, and what is behind is less all the same.
func TestGraded(t *testing.T) {
	degrees := []int{3, 0, 300, 2, 0}
	for _, r := range rings() {
		o := flat.NewGraded(r, degrees[:3], degrees[3:])
		for place, d := range degrees {
			for _, e := range upTo(r.N, 4) {
				for other, c := range degrees {
					for _, f := range upTo(r.N, 4) {
						wanted := cmp.Or(compareBools(place < 3, other < 3), cmp.Compare(d+bare.Degree(e), c+bare.Degree(f)), compareTwo(r, e, f), cmp.Compare(other, place))
						a, b := o.Term(place, term(1, e...)), o.Term(other, term(2, f...))
						if got := cmp.Compare(a.Key, b.Key); got != wanted {
							t.Fatalf("%v: %v at %d and %v at %d: %d, must be %d", r, e, place, f, other, got, wanted)
						}
					}
				}
			}
		}
	}
}

// An order with turned variables and places has the keys that each term has where it stands then.
func TestTurned(t *testing.T) {
	for _, r := range rings() {
		plain := flat.NewOrder(r, 3, 0)
		variables := []int{2, 0, 1}
		if r.N < 3 {
			variables = []int{1, 0}[2-r.N:]
		}
		places := []int{1, 2, 0}
		o := flat.NewTurned(r, variables, places)
		for i, place := range places {
			for _, e := range upTo(r.N, 3) {
				turned := make([]int, r.N)
				for j, variable := range variables {
					turned[variable] = e[j]
				}
				if got, wanted := o.Term(place, term(1, turned...)), plain.Term(i, term(1, e...)); got.Key != wanted.Key {
					t.Errorf("%v: %v at %d has the key of %v, not that of %v", r, turned, place, got, wanted)
				}
			}
		}
	}
}

// A vector that stands in another order falls by the new one, and is not changed.
func TestOwn(t *testing.T) {
	for _, r := range rings() {
		for _, other := range rings() {
			if other.N != r.N {
				continue
			}
			var v api.Vector
			for i, e := range upTo(r.N, 3) {
				v = append(v, one(i+1, e...))
			}
			o, f := flat.NewOrder(r, len(v), 0), flat.NewOrder(other, len(v), 0).Vector(0, v)
			before := slices.Clone(f)
			if got, wanted := o.Own(f), o.Vector(0, v); !slices.Equal(got, wanted) {
				t.Errorf("%v: %v, must be %v", r, got, wanted)
			}
			if !slices.Equal(f, before) {
				t.Errorf("%v: now it is %v, and was %v", r, f, before)
			}
		}
	}
}

// What is made flat has falling keys, and comes back as it was; of some places only those.
func TestFull(t *testing.T) {
	v := api.Vector{{term(1, 2, 0), term(3, 0, 1)}, nil, {term(5, 1, 1), term(6, 0, 0)}}
	for _, over := range []int{api.OverMono, api.OverPlace} {
		r := plane
		r.Over = over
		o := flat.NewOrder(r, 4, 0)
		f := o.Vector(1, v)
		if !slices.IsSortedFunc(f, func(a, b flat.Term) int { return cmp.Compare(b.Key, a.Key) }) {
			t.Errorf("%v does not fall", f)
		}
		for _, c := range []struct {
			from, rank int
			want       api.Vector
		}{{1, 3, v}, {0, 2, api.Vector{nil, v[0]}}, {3, 1, v[2:]}, {2, 1, api.Vector{nil}}, {0, 0, nil}} {
			if got := f.Full(2, c.from, c.rank); fmt.Sprint(got) != fmt.Sprint(c.want) {
				t.Errorf("%d places from %d: %v, must be %v", c.rank, c.from, got, c.want)
			}
		}
	}
}

// Products, with their keys, and vectors whose Lead is 1.
func TestScale(t *testing.T) {
	v := api.Vector{{term(1, 2, 0), term(3, 0, 1)}, {term(5, 1, 1), term(6, 0, 0)}}
	for _, r := range rings() {
		if r.N != 2 {
			continue
		}
		o := flat.NewOrder(r, 2, 1)
		product, _ := vector.Scale(r, one(99, 3, 4), v)
		if got, wanted := o.Scale(o.Term(2, term(99, 3, 4)), o.Vector(0, v)), o.Vector(0, product); !slices.Equal(got, wanted) {
			t.Errorf("%v: %v, must be %v", r, got, wanted)
		}
		monic := o.Monic(o.Vector(0, product))
		back := o.Scale(flat.Term{C: uint8(o.Vector(0, product)[0].C)}, monic)
		if monic[0].C != 1 || !slices.Equal(back, o.Vector(0, product)) {
			t.Errorf("%v: %v is none of %v", r, monic, product)
		}
		lead := o.Vector(0, v)[0]
		by := o.Term(0, term(1, 3, 4))
		if got := o.KeyTimes(lead, by.E); got != o.Scale(by, flat.Vector{lead})[0].Key {
			t.Errorf("%v: key %d", r, got)
		}
	}
}

// What is known of exponents, the last ones too.
func TestExponents(t *testing.T) {
	a, b := flat.Exponents{1, 2, 3, 4}, flat.Exponents{4, 3, 2, 1}
	if a.Degree() != 10 || a.Times(b) != (flat.Exponents{5, 5, 5, 5}) || a.Least(b) != (flat.Exponents{4, 3, 3, 4}) {
		t.Error(a.Degree(), a.Times(b), a.Least(b))
	}
	if a.Times(b).Over(a) != b || a.Into(b) || b.Into(a) || !a.Into(a) || !a.Into(a.Least(b)) {
		t.Error(a, b)
	}
	for i := range a {
		less := a
		less[i]--
		if a.Into(less) || !less.Into(a) {
			t.Error(a, less)
		}
	}
}

// Sums of none, of some that cancel each other, and of many; what is added up is not changed.
func TestSum(t *testing.T) {
	o := flat.NewOrder(plane, 1, 0)
	if all := flat.NewSum(o).All(); len(all) != 0 {
		t.Errorf("of none: %v", all)
	}
	var vectors []flat.Vector
	sum := api.Vector{nil}
	for i := range 100 {
		v := api.Vector{{term(1+i%6, i, 7), term(1, i%10, 3), term(2, 0, i%2)}}
		if i < 10 {
			v = api.Vector{{term(1+i%6, i, 7), term(2, 0, i%2)}}
		}
		sum, _ = vector.Add(plane, sum, v)
		vectors = append(vectors, o.Vector(0, v))
	}
	before := fmt.Sprint(vectors)
	if got, wanted := flat.NewSum(o, vectors...).All(), o.Vector(0, sum); !slices.Equal(got, wanted) {
		t.Errorf("%v, must be %v", got, wanted)
	}
	if fmt.Sprint(vectors) != before {
		t.Error("what was added up is changed")
	}
	seven := flat.NewSum(o, slices.Repeat(vectors[:1], 7)...)
	if got, more := seven.Next(); more {
		t.Errorf("seven times: %v", got)
	}
}

// E1: what is taken away and what is left is told in falling order; either one ends it.
func TestDivide(t *testing.T) {
	o := flat.NewOrder(plane, 1, 0)
	// x^2 + x*y + y^2 + x, less 4*x and 4*y times 2*x + 1, is y^2 + 4*x + 3*y.
	d := flat.NewDivisor(o, 5, o.Vector(0, api.Vector{{term(2, 1, 0), term(1, 0, 0)}}))
	v := o.Vector(0, api.Vector{{term(1, 2, 0), term(1, 1, 1), term(1, 0, 2), term(1, 1, 0)}})
	for i, wanted := range []string{
		"by 5 {4 [1 0]};",
		"by 5 {4 [1 0]};by 5 {4 [0 1]};",
		"by 5 {4 [1 0]};by 5 {4 [0 1]};left {1 [0 2]};",
		"by 5 {4 [1 0]};by 5 {4 [0 1]};left {1 [0 2]};by 5 {2 [0 0]};",
		"by 5 {4 [1 0]};by 5 {4 [0 1]};left {1 [0 2]};by 5 {2 [0 0]};left {3 [0 1]};",
		"by 5 {4 [1 0]};by 5 {4 [0 1]};left {1 [0 2]};by 5 {2 [0 0]};left {3 [0 1]};left {5 [0 0]};",
		"by 5 {4 [1 0]};by 5 {4 [0 1]};left {1 [0 2]};by 5 {2 [0 0]};left {3 [0 1]};left {5 [0 0]};",
	} {
		told, count := "", 0
		tell := func(what string) bool {
			told += what + ";"
			count++
			return count <= i
		}
		flat.NewSum(o, v).Divide(
			func(t flat.Term) *flat.Divisor {
				if d.Into(t) {
					return &d
				}
				return nil
			},
			func(d *flat.Divisor, by flat.Term) bool { return tell(fmt.Sprint("by ", d.Number, " ", by.Bare(2))) },
			func(t flat.Term) bool { return tell(fmt.Sprint("left ", t.Bare(2))) })
		if told != wanted {
			t.Errorf("ended after %d: %s, must be %s", i+1, told, wanted)
		}
	}
}
