package bare_test

import (
	"reflect"
	"testing"

	"syzygist/api"
	"syzygist/bare"
)

var space = api.Ring{P: 5, N: 3, Order: api.OrderReverse, Over: api.OverMono}

func term(c int, e ...int) api.Term { return api.Term{C: c, E: e} }

func want(t *testing.T, what string, got, wanted api.Poly) {
	t.Helper()
	if len(got)+len(wanted) > 0 && !reflect.DeepEqual(got, wanted) {
		t.Errorf("%s: %v, must be %v", what, got, wanted)
	}
}

// B2: degrees over the limit of what is handed in still have an order.
func TestCompareBeyondLimits(t *testing.T) {
	for _, c := range []struct {
		order int
		a, b  []int
		want  int
	}{
		{api.OrderReverse, []int{300, 0, 0}, []int{0, 0, 299}, 1},
		{api.OrderReverse, []int{150, 0, 150}, []int{0, 300, 0}, -1},
		{api.OrderWords, []int{150, 0, 150}, []int{0, 300, 0}, 1},
		{api.OrderWords, []int{1, 300, 0}, []int{1, 300, 0}, 0},
	} {
		r := space
		r.Order = c.order
		if got := bare.Compare(r, c.a, c.b); got != c.want {
			t.Errorf("order %d of %v and %v: %d, must be %d", c.order, c.a, c.b, got, c.want)
		}
	}
	if got := bare.Degree([]int{300, 1, 2}); got != 303 {
		t.Errorf("degree: %d, must be 303", got)
	}
}

// C3, D3: sums of none, of one, of some that cancel each other on the way, and of degrees over the limit.
func TestSum(t *testing.T) {
	f := api.Poly{term(1, 300, 0, 0), term(2, 0, 1, 0)}
	g := api.Poly{term(4, 300, 0, 0), term(2, 0, 0, 1)}
	want(t, "none", bare.Sum(space), nil)
	want(t, "without terms", bare.Sum(space, nil, api.Poly{}, nil), nil)
	want(t, "one", bare.Sum(space, f), f)
	want(t, "two", bare.Sum(space, f, g), api.Poly{term(2, 0, 1, 0), term(2, 0, 0, 1)})
	want(t, "two turned round", bare.Sum(space, g, f), bare.Sum(space, f, g))
	want(t, "each one ahead at times", bare.Sum(space, g, f[1:], f[:1]), api.Poly{term(2, 0, 1, 0), term(2, 0, 0, 1)})
	want(t, "five", bare.Sum(space, f, f, f, f, f), nil)
	want(t, "six", bare.Sum(space, f, f, nil, f, f, f, f), f)
}

// C3: products without terms, of degrees over the limit, and of either one the longer.
func TestProduct(t *testing.T) {
	f := api.Poly{term(1, 150, 0, 0), term(1, 0, 0, 0)}
	g := api.Poly{term(1, 150, 0, 0), term(2, 1, 0, 0), term(4, 0, 0, 0)}
	product := api.Poly{term(1, 300, 0, 0), term(2, 151, 0, 0), term(2, 1, 0, 0), term(4, 0, 0, 0)}
	want(t, "f g", bare.Product(space, f, g), product)
	want(t, "g f", bare.Product(space, g, f), product)
	want(t, "f 0", bare.Product(space, f, nil), nil)
	want(t, "0 g", bare.Product(space, nil, g), nil)
}

// P2: what comes out is new memory.
func TestNewMemory(t *testing.T) {
	f := api.Poly{term(1, 2, 0, 0), term(3, 0, 0, 0)}
	one := api.Poly{term(1, 0, 0, 0)}
	for _, got := range []api.Poly{bare.Sum(space, f), bare.Sum(space, f, nil), bare.Product(space, f, one)} {
		for i := range got {
			got[i].C, got[i].E[0] = 77, 88
		}
	}
	want(t, "f afterwards", f, api.Poly{term(1, 2, 0, 0), term(3, 0, 0, 0)})
	want(t, "1 afterwards", one, api.Poly{term(1, 0, 0, 0)})
}
