package complete

import (
	"cmp"
	"slices"

	"syzygist/api"
	"syzygist/flat"
)

// other order of ways than the ring's, and, if it was asked for already, the basis by it of what makes nothing. If the Leads of that are those of an order ahead of it, it leaves the same, and is needless.
type other struct {
	order          *flat.Order
	basis          *making
	leads          flat.Vector
	family         *family
	late, asked    int
	good, needless bool
}

// family of orders that differ in their places alone, and how many terms were left by the first one of them.
type family struct{ left int }

// compare two orders: the one to be tried first is less. What was good for one way of a list is mostly good for the others. Families by which much more is left than by the best one come last; of the others all orders are tried for some way ahead of one for all ways.
func (o *other) compare(p *other, best int) int {
	return cmp.Or(
		compareBools(p.good, o.good),
		compareBools(2*o.family.left > 3*best, 2*p.family.left > 3*best),
		cmp.Compare(o.asked, p.asked),
		cmp.Compare(o.late, p.late),
		cmp.Compare(o.family.left, p.family.left))
}

// compareBools: false is less than true.
func compareBools(a, b bool) int {
	switch {
	case a == b:
		return 0
	case b:
		return -1
	default:
		return 1
	}
}

// otherOrders of ways of so many polynomials: by whatever order of the variables, and of the places.
func otherOrders(r api.Ring, count int) []*other {
	families := make([]family, 2*len(turns(r.N)))
	var all []*other
	for _, places := range turns(count) {
		for _, over := range []int{api.OverMono, api.OverPlace} {
			for i, order := range turnedOrders(r, over, places) {
				all = append(all, &other{order: order, family: &families[i], late: late(over, places)})
			}
		}
	}
	return all
}

// late: how late an order is tried. The order of the variables does most, then the place that comes first, if the place counts first.
func late(over int, places []int) int {
	switch {
	case over == api.OverMono && slices.IsSorted(places):
		return 0
	case over == api.OverPlace && slices.IsSorted(places[1:]):
		return 1
	default:
		return 2
	}
}

// turnedOrders: both orders, by each order of the variables.
func turnedOrders(r api.Ring, over int, places []int) []*flat.Order {
	var l []*flat.Order
	for _, order := range []int{api.OrderReverse, api.OrderWords} {
		r.Order, r.Over = order, over
		for _, variables := range turns(r.N) {
			l = append(l, flat.NewTurned(r, variables, places))
		}
	}
	return l
}

// turns: all orders of the numbers below n, from their own one on.
func turns(n int) [][]int {
	all := [][]int{nil}
	for i := range n {
		var more [][]int
		for _, l := range all {
			for at := i; at >= 0; at-- {
				more = append(more, slices.Insert(slices.Clone(l), at, i))
			}
		}
		all = more
	}
	return all
}
