package complete

import (
	"cmp"
	"slices"

	"syzygist/api"
	"syzygist/flat"
)

// Leads of a basis, by their places, of the module of a list whose vectors have one degree each, by the degrees of the places. How many terms of a degree no Lead goes into hangs on no order.
func Leads(r api.Ring, degrees []int, l []api.Vector) [][]flat.Exponents {
	m := newGraded(r, degrees, nil)
	m.addByDegree(m.vectors(l))
	m.finish(anyDegree)
	leads := make([][]flat.Exponents, len(degrees))
	for _, t := range m.leads() {
		leads[t.Place] = append(leads[t.Place], t.E)
	}
	return leads
}

// Steps of a minimal resolution of the module of a list whose vectors have one degree each, and no units. Of each step its vectors are told, and their degrees, which do not fall.
func Steps(r api.Ring, degrees []int, l []api.Vector, told func(api.Step)) {
	m := newGraded(r, degrees, nil)
	all := m.vectors(l)
	// Of whatever module there are at most as many steps as there are variables.
	for len(all) > 0 {
		needed := m.addByDegree(all)
		told(m.step(r, needed))
		m, all = m.next(r, needed)
	}
}

// newGraded making, where the places, and more behind them, have degrees of their own. Which order the ring has does not count: by this one the least work is done.
func newGraded(r api.Ring, degrees, more []int) *making {
	r.Order = api.OrderReverse
	return newMaking(flat.NewGraded(r, degrees, more), slices.Concat(degrees, more))
}

// vectors of a list, but those without terms.
func (m *making) vectors(l []api.Vector) []flat.Vector {
	var all []flat.Vector
	for _, v := range l {
		if f := m.order.Vector(0, v); len(f) > 0 {
			all = append(all, f)
		}
	}
	return all
}

// degree of a vector that has one.
func (m *making) degree(v flat.Vector) int { return v[0].E.Degree() + m.degrees[v[0].Place] }

func (m *making) degreesOf(l []flat.Vector) []int {
	var all []int
	for _, v := range l {
		all = append(all, m.degree(v))
	}
	return all
}

// addByDegree: vectors, from the least degree on, each when the basis is made up to its degree: if it leaves nothing then, those ahead make it. The others, which are needed, come out.
func (m *making) addByDegree(l []flat.Vector) []flat.Vector {
	sorted := slices.SortedStableFunc(slices.Values(l), func(v, w flat.Vector) int {
		return cmp.Compare(m.degree(v), m.degree(w))
	})
	var needed []flat.Vector
	for _, v := range sorted {
		m.finish(m.degree(v))
		if left := m.left(flat.NewSum(m.order, v)); len(left) > 0 {
			m.add(left)
			needed = append(needed, v)
		}
	}
	return needed
}

// step of a resolution, by the ring's own order.
func (m *making) step(r api.Ring, l []flat.Vector) api.Step {
	own := flat.NewOrder(r, len(m.degrees), 0)
	step := api.Step{Degrees: m.degreesOf(l)}
	for _, v := range l {
		step.Vectors = append(step.Vectors, own.Own(v).Full(r.N, 0, len(m.degrees)))
	}
	return step
}

// next step: a making whose places are the vectors of this one, and a basis of all ways that make nothing of them.
func (m *making) next(r api.Ring, l []flat.Vector) (*making, []way) {
	width, degrees := len(m.degrees), m.degreesOf(l)
	both, next := newGraded(r, m.degrees, degrees), newGraded(r, degrees, nil)
	var rows []flat.Vector
	for i, v := range l {
		rows = append(rows, append(both.order.Own(v), both.order.Unit(width+i)))
	}
	both.addByDegree(rows)
	both.finish(anyDegree)
	var ways []way
	for _, x := range slices.Concat(both.members[width:]...) {
		if !x.gone {
			ways = append(ways, next.order.Own(wayOf(x.all(), width)))
		}
	}
	return next, reduced(next.order, len(l), ways)
}
