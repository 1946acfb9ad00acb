package complete

import (
	"syzygist/api"
	"syzygist/bare"
	"syzygist/flat"
)

// way: polynomials by which something is made of a list; its terms stand at the places of the list.
type way = flat.Vector

// ways by which a basis is made of all that given ways make of a list, and those that make a basis of all that make nothing.
//
// Where the place counts first, one place is looked at after the other: if all of them were looked at in one go, what stands at the later ones would grow without need.
func ways(r api.Ring, rank int, l []api.Vector, given []way) []way {
	width := rank
	if r.Over == api.OverPlace {
		width = 1
	}
	r.Over = api.OverMono
	nothing := given
	var all []way
	for from := 0; from < rank; from += width {
		var some []way
		some, nothing = stage(r, l, from, from+width, nothing)
		all = append(all, some...)
	}
	return append(all, nothing...)
}

// tracedBasis of a list's module. What makes nothing is taken along: less it, the polynomials by which something is made get as small as they can.
func tracedBasis(order *flat.Order, r api.Ring, rank int, l []api.Vector) []flat.Vector {
	rows := traced(order, l, 0, rank)
	var all []flat.Vector
	for _, w := range ways(r, rank, l, units(r, len(l))) {
		all = append(all, combined(order, w, rows))
	}
	return all
}

// byPlace: the reduced basis, where the place counts first, of what some ways make together; the least one is the first one.
func byPlace(r api.Ring, count int, given []way) []way {
	order := flat.NewOrder(r, count, 0)
	rows := units(r, count)
	list := make([]api.Vector, count)
	for i, u := range rows {
		list[i] = u.Full(r.N, 0, count)
	}
	var all []flat.Vector
	for _, w := range ways(r, count, list, given) {
		all = append(all, combined(order, w, rows))
	}
	return reduced(order, count, all)
}

// units: the ways that make each vector of a list by itself.
func units(r api.Ring, count int) []way {
	order := flat.NewOrder(r, count, 0)
	var l []way
	for i := range count {
		l = append(l, way{order.Unit(i)})
	}
	return l
}

// stage: of what given ways make, only some places are looked at: the ways that make a basis of that, and those that make a basis of all that make nothing there.
func stage(r api.Ring, l []api.Vector, from, to int, given []way) (some, nothing []way) {
	width := to - from
	order := flat.NewOrder(r, width, len(l))
	rows := traced(order, l, from, to)
	m := newMaking(order, append(make([]int, width), degrees(l)...))
	for _, w := range given {
		v := combined(order, w, rows)
		m.fill(v)
		if left := m.left(flat.NewSum(order, v)); len(left) > 0 {
			m.add(left)
		}
	}
	m.finish(anyDegree)
	for _, v := range reduced(order, width+len(l), m.emptied()) {
		if int(v[0].Place) < width {
			some = append(some, wayOf(v, width))
		} else {
			nothing = append(nothing, wayOf(v, width))
		}
	}
	return some, nothing
}

// traced: each vector of a list, at some of its places, and behind them a 1 at a place of its own: in whatever is made of these, that place tells by what.
func traced(order *flat.Order, l []api.Vector, from, to int) []flat.Vector {
	var rows []flat.Vector
	for i, v := range l {
		rows = append(rows, append(order.Vector(0, v[from:to]), order.Unit(to-from+i)))
	}
	return rows
}

// combined: what a way makes of rows.
func combined(order *flat.Order, w way, rows []flat.Vector) flat.Vector {
	sum := flat.NewSum(order)
	for _, t := range w {
		sum.Add(order.Scale(t, rows[t.Place]))
	}
	return sum.All()
}

// wayOf a traced vector: what stands behind its first places.
func wayOf(v flat.Vector, width int) way {
	var w way
	for _, t := range v {
		if int(t.Place) >= width {
			t.Place -= uint8(width)
			w = append(w, t)
		}
	}
	return w
}

// degrees of the vectors of a list: of each one that of its greatest monomial.
func degrees(l []api.Vector) []int {
	all := make([]int, len(l))
	for i, v := range l {
		for _, f := range v {
			for _, t := range f {
				all[i] = max(all[i], bare.Degree(t.E))
			}
		}
	}
	return all
}
