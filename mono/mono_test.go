package mono_test

import (
	"fmt"
	"math"
	"slices"
	"testing"

	"syzygist/api"
	"syzygist/mono"
)

// rings of each count of variables, in both orders, over both.
func rings() []api.Ring {
	var l []api.Ring
	for n := 1; n <= api.MaxVars; n++ {
		for _, order := range []int{api.OrderReverse, api.OrderWords} {
			for _, over := range []int{api.OverMono, api.OverPlace} {
				l = append(l, api.Ring{P: 7, N: n, Order: order, Over: over})
			}
		}
	}
	return l
}

// upTo: all monomials of n variables of at most a degree.
func upTo(n, degree int) [][]int {
	if n == 0 {
		return [][]int{{}}
	}
	var l [][]int
	for x := range degree + 1 {
		for _, rest := range upTo(n-1, degree-x) {
			l = append(l, append([]int{x}, rest...))
		}
	}
	return l
}

var plane = api.Ring{P: 7, N: 2, Order: api.OrderReverse, Over: api.OverMono}

type call struct {
	name string
	do   func(r api.Ring, a, b []int) ([]int, api.Errno)
}

func calls() []call {
	return []call{{"Times", mono.Times}, {"Over", mono.Over}, {"Least", mono.Least}}
}

func wantList(t *testing.T, what string, got []int, err api.Errno, want []int, wantErr api.Errno) {
	t.Helper()
	if !slices.Equal(got, want) || err != wantErr {
		t.Errorf("%s: %v %d, must be %v %d", what, got, err, want, wantErr)
	}
}

// wantError of all calls of two monomials, each with nothing else.
func wantError(t *testing.T, r api.Ring, a, b []int, want api.Errno) {
	t.Helper()
	what := fmt.Sprint(" ", r, a, b)
	for _, c := range calls() {
		got, err := c.do(r, a, b)
		wantList(t, c.name+what, got, err, nil, want)
	}
	if got, err := mono.Order(r, a, b); got != 0 || err != want {
		t.Errorf("Order%s: %d %d, must be 0 %d", what, got, err, want)
	}
}

// B1: the ring's errors, in their order; each call tells them first.
func TestRing(t *testing.T) {
	for _, c := range []struct {
		r    api.Ring
		want api.Errno
	}{
		{api.Ring{}, api.ErrRange},
		{api.Ring{P: 1, N: 1, Order: 1, Over: 1}, api.ErrRange},
		{api.Ring{P: 102, N: 1, Order: 1, Over: 1}, api.ErrRange},
		{api.Ring{P: math.MaxInt, N: 1, Order: 1, Over: 1}, api.ErrRange},
		{api.Ring{P: 6, N: 9}, api.ErrState},
		{api.Ring{P: 100, N: 1, Order: 1, Over: 1}, api.ErrState},
		{api.Ring{P: 7, N: 0, Order: 1, Over: 1}, api.ErrRange},
		{api.Ring{P: 7, N: 4, Order: 1, Over: 1}, api.ErrRange},
		{api.Ring{P: 7, N: -1, Order: 9, Over: 9}, api.ErrRange},
		{api.Ring{P: 7, N: math.MaxInt}, api.ErrRange},
		{api.Ring{P: 7, N: 1, Order: 0, Over: 1}, api.ErrKind},
		{api.Ring{P: 7, N: 1, Order: 3, Over: 1}, api.ErrKind},
		{api.Ring{P: 7, N: 1, Order: 1, Over: 0}, api.ErrKind},
		{api.Ring{P: 7, N: 1, Order: 1, Over: 3}, api.ErrKind},
		{api.Ring{P: 7, N: 1, Order: -1, Over: -1}, api.ErrKind},
	} {
		if got := mono.Ring(c.r); got != c.want {
			t.Errorf("Ring(%v): %d, must be %d", c.r, got, c.want)
		}
		if got := mono.Check(c.r, []int{-1, -1, -1, -1}); got != c.want {
			t.Errorf("Check(%v): %d, must be %d", c.r, got, c.want)
		}
		wantError(t, c.r, nil, nil, c.want)
		wantError(t, c.r, []int{1}, []int{201}, c.want)
	}
	for _, r := range rings() {
		for _, r.P = range []int{2, 7, 97, 101} {
			if got := mono.Ring(r); got != api.OK {
				t.Errorf("Ring(%v): %d, must be OK", r, got)
			}
		}
	}
}

// B1: how many exponents, none below 0, and how great a degree.
func TestCheck(t *testing.T) {
	for _, c := range []struct {
		n    int
		e    []int
		want api.Errno
	}{
		{1, nil, api.ErrForm},
		{1, []int{0}, api.OK},
		{1, []int{200}, api.OK},
		{1, []int{201}, api.ErrRange},
		{1, []int{0, 0}, api.ErrForm},
		{2, []int{-1}, api.ErrForm},
		{2, []int{100, 100}, api.OK},
		{2, []int{0, 200}, api.OK},
		{2, []int{100, 101}, api.ErrRange},
		{2, []int{-1, 1}, api.ErrRange},
		{2, []int{1, -1}, api.ErrRange},
		{2, []int{201, -1}, api.ErrRange},
		{2, []int{math.MaxInt, math.MaxInt}, api.ErrRange},
		{2, []int{math.MinInt, math.MinInt}, api.ErrRange},
		{2, []int{300, 0, 0}, api.ErrForm},
		{3, []int{66, 67, 67}, api.OK},
		{3, []int{67, 67, 67}, api.ErrRange},
		{3, []int{math.MaxInt, math.MaxInt, 2}, api.ErrRange},
		{3, []int{0, 0, -1}, api.ErrRange},
		{3, []int{0, 0}, api.ErrForm},
		{3, []int{}, api.ErrForm},
	} {
		for _, r := range rings() {
			if r.N != c.n {
				continue
			}
			if got := mono.Check(r, c.e); got != c.want {
				t.Errorf("Check(%v, %v): %d, must be %d", r, c.e, got, c.want)
			}
			if one := make([]int, r.N); c.want != api.OK {
				wantError(t, r, c.e, one, c.want)
				wantError(t, r, one, c.e, c.want)
			}
		}
	}
}

// B1, P1: all that is wrong with a comes ahead of what is wrong with b, and that ahead of all else.
func TestFirstOfTwo(t *testing.T) {
	wantError(t, plane, []int{-1, 0}, []int{1}, api.ErrRange)
	wantError(t, plane, []int{1}, []int{-1, 0}, api.ErrForm)
	wantError(t, plane, []int{1, 1}, []int{201, 0}, api.ErrRange)
	wantError(t, plane, []int{200, 0}, []int{0, 200, 0}, api.ErrForm)
	wantError(t, plane, []int{math.MaxInt, 1}, nil, api.ErrRange)
}

// B2: products, quotients and least ones of all small monomials, exponent by exponent.
func TestSmall(t *testing.T) {
	for _, r := range rings() {
		l := upTo(r.N, 4)
		for _, a := range l {
			for _, b := range l {
				product, quotient, least := make([]int, r.N), make([]int, r.N), make([]int, r.N)
				none := api.OK
				for i := range a {
					product[i], quotient[i], least[i] = a[i]+b[i], a[i]-b[i], max(a[i], b[i])
					if b[i] > a[i] {
						none = api.ErrNone
					}
				}
				if none != api.OK {
					quotient = nil
				}
				what := fmt.Sprint(" ", r, a, b)
				got, err := mono.Times(r, a, b)
				wantList(t, "Times"+what, got, err, product, api.OK)
				got, err = mono.Over(r, a, b)
				wantList(t, "Over"+what, got, err, quotient, none)
				got, err = mono.Least(r, a, b)
				wantList(t, "Least"+what, got, err, least, api.OK)
			}
		}
	}
}

// B2: degrees at the limit, and over it.
func TestGreatDegrees(t *testing.T) {
	for _, c := range []struct {
		name    string
		a, b    []int
		want    []int
		wantErr api.Errno
	}{
		{"Times", []int{100, 50}, []int{0, 50}, []int{100, 100}, api.OK},
		{"Times", []int{100, 50}, []int{0, 51}, nil, api.ErrMany},
		{"Times", []int{200, 0}, []int{0, 0}, []int{200, 0}, api.OK},
		{"Times", []int{200, 0}, []int{0, 200}, nil, api.ErrMany},
		{"Times", []int{0, 1}, []int{200, 0}, nil, api.ErrMany},
		{"Least", []int{100, 0}, []int{0, 100}, []int{100, 100}, api.OK},
		{"Least", []int{100, 0}, []int{0, 101}, nil, api.ErrMany},
		{"Least", []int{200, 0}, []int{200, 0}, []int{200, 0}, api.OK},
		{"Least", []int{200, 0}, []int{1, 1}, nil, api.ErrMany},
		{"Over", []int{200, 0}, []int{200, 0}, []int{0, 0}, api.OK},
		{"Over", []int{150, 50}, []int{150, 0}, []int{0, 50}, api.OK},
		{"Over", []int{200, 0}, []int{0, 1}, nil, api.ErrNone},
		{"Over", []int{0, 0}, []int{0, 200}, nil, api.ErrNone},
	} {
		for _, k := range calls() {
			if k.name == c.name {
				got, err := k.do(plane, c.a, c.b)
				wantList(t, fmt.Sprint(c.name, c.a, c.b), got, err, c.want, c.wantErr)
			}
		}
	}
}

func wantOrder(t *testing.T, r api.Ring, a, b []int, want int) {
	t.Helper()
	if got, err := mono.Order(r, a, b); got != want || err != api.OK {
		t.Errorf("Order(%v, %v, %v): %d %d, must be %d 0", r, a, b, got, err, want)
	}
}

// B2: both orders of three variables, written out, greatest first.
func TestOrders(t *testing.T) {
	for order, falling := range map[int][][]int{
		api.OrderReverse: {{0, 0, 3}, {2, 0, 0}, {1, 1, 0}, {0, 2, 0}, {1, 0, 1}, {0, 1, 1}, {0, 0, 2}, {1, 0, 0}, {0, 1, 0}, {0, 0, 1}, {0, 0, 0}},
		api.OrderWords:   {{0, 0, 3}, {2, 0, 0}, {1, 1, 0}, {1, 0, 1}, {0, 2, 0}, {0, 1, 1}, {0, 0, 2}, {1, 0, 0}, {0, 1, 0}, {0, 0, 1}, {0, 0, 0}},
	} {
		for _, over := range []int{api.OverMono, api.OverPlace} {
			r := api.Ring{P: 2, N: 3, Order: order, Over: over}
			for i, a := range falling {
				wantOrder(t, r, a, a, 0)
				for _, b := range falling[i+1:] {
					wantOrder(t, r, a, b, 1)
					wantOrder(t, r, b, a, -1)
				}
			}
		}
	}
	wantOrder(t, plane, []int{200, 0}, []int{0, 200}, 1)
	wantOrder(t, plane, []int{0, 199}, []int{200, 0}, -1)
	wantOrder(t, api.Ring{P: 5, N: 1, Order: 1, Over: 1}, []int{3}, []int{4}, -1)
}

// B3: of any two one is more, or they are the same; three stand in a row; 1 is the least one.
func TestOrderIsOne(t *testing.T) {
	for _, r := range rings() {
		l := upTo(r.N, 4)
		one := make([]int, r.N)
		order := func(a, b []int) int { k, _ := mono.Order(r, a, b); return k }
		for _, a := range l {
			if !slices.Equal(a, one) {
				wantOrder(t, r, one, a, -1)
			}
			for _, b := range l {
				if k := order(a, b); k != -order(b, a) || (k == 0) != slices.Equal(a, b) {
					t.Errorf("%v: %v and %v: %d", r, a, b, k)
				}
				for _, c := range l {
					if order(a, b) < 0 && order(b, c) < 0 && order(a, c) >= 0 {
						t.Errorf("%v: %v, %v, %v", r, a, b, c)
					}
				}
			}
		}
	}
}

// B3: what is more stays more, times whatever.
func TestOrderOfProducts(t *testing.T) {
	for _, r := range rings() {
		l := upTo(r.N, 3)
		for _, a := range l {
			for _, b := range l {
				want, _ := mono.Order(r, a, b)
				for _, c := range l {
					x, _ := mono.Times(r, a, c)
					y, _ := mono.Times(r, b, c)
					wantOrder(t, r, x, y, want)
				}
			}
		}
	}
}

// P2, P3: exponents are only read, the spare room behind them too; each answer is new memory, and the same each time.
func TestReadsOnlyAnswersNew(t *testing.T) {
	for _, k := range calls() {
		room := []int{3, 1, -5, -6}
		other := []int{3, 0, -7, -8}
		a, b := room[:2], other[:2]
		first, err := k.do(plane, a, b)
		want := slices.Clone(first)
		if err != api.OK {
			t.Fatalf("%s: %d", k.name, err)
		}
		for i := range first {
			first[i] = 77
		}
		_ = append(first, 88)
		second, err := k.do(plane, a, b)
		wantList(t, k.name+" again", second, err, want, api.OK)
		room[0], other[0] = 4, 4
		wantList(t, k.name+" after a change", second, api.OK, want, api.OK)
		room[0], other[0] = 3, 3
		mono.Check(plane, a)
		mono.Order(plane, a, b)
		if !slices.Equal(room, []int{3, 1, -5, -6}) || !slices.Equal(other, []int{3, 0, -7, -8}) {
			t.Errorf("%s changed what it was handed: %v %v", k.name, room, other)
		}
	}
}

// P2: an answer that is one of the two monomials is new memory all the same.
func TestAnswerIsNeitherOfTheTwo(t *testing.T) {
	for _, k := range calls() {
		a, one := []int{2, 3}, []int{0, 0}
		got, err := k.do(plane, a, one)
		wantList(t, k.name, got, err, []int{2, 3}, api.OK)
		got[0], got[1] = 9, 9
		if !slices.Equal(a, []int{2, 3}) || !slices.Equal(one, []int{0, 0}) {
			t.Errorf("%s: the answer shares memory: %v %v", k.name, a, one)
		}
	}
}

func Example() {
	r := api.Ring{P: 7, N: 2, Order: api.OrderReverse, Over: api.OverMono}
	product, _ := mono.Times(r, []int{1, 0}, []int{1, 1})
	least, _ := mono.Least(r, []int{2, 0}, []int{1, 1})
	order, _ := mono.Order(r, []int{2, 0}, []int{1, 1})
	_, none := mono.Over(r, []int{1, 0}, []int{0, 1})
	fmt.Println(product, least, order, none == api.ErrNone)
	// Output: [2 1] [2 1] 1 true
}
