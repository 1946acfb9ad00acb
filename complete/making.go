package complete

import (
	"cmp"
	"math"
	"slices"

	"syzygist/flat"
)

// anyDegree is more than that of any pair.
const anyDegree = math.MaxInt

// member of a basis. It is gone when the Lead of a later one goes into its own.
type member struct {
	flat.Divisor
	gone bool
}

// all of a member.
func (x *member) all() flat.Vector { return append(flat.Vector{x.Lead}, x.Rest...) }

// pair of members with Leads at one place; both go into least.
type pair struct {
	one, other *member
	least      flat.Exponents
	degree     int
	key        int64
}

// making of a basis: the members so far, by the places of their Leads, and the pairs that are still to be looked at. The degrees are those of the places.
type making struct {
	order   *flat.Order
	degrees []int
	members [][]*member
	pairs   []pair
	work    *allowance
}

func newMaking(order *flat.Order, degrees []int) *making {
	return &making{order: order, degrees: degrees, members: make([][]*member, len(degrees))}
}

// add a vector with a term, and the pairs that it makes with the others.
func (m *making) add(v flat.Vector) {
	fresh := m.newMember(m.order.Monic(v))
	m.dropPairs(fresh)
	m.pairs = append(m.pairs, m.newPairs(fresh)...)
	for _, x := range m.members[fresh.Lead.Place] {
		x.gone = x.gone || fresh.Into(x.Lead)
	}
	m.put(fresh)
}

func (m *making) newMember(v flat.Vector) *member {
	return &member{Divisor: flat.NewDivisor(m.order, 0, v)}
}

func (m *making) put(x *member) {
	m.members[x.Lead.Place] = append(m.members[x.Lead.Place], x)
}

// dropPairs that a new member stands between: whatever they would tell, the two pairs with it tell.
func (m *making) dropPairs(fresh *member) {
	m.pairs = slices.DeleteFunc(m.pairs, func(p pair) bool {
		return p.one.Lead.Place == fresh.Lead.Place && fresh.Lead.E.Into(p.least) &&
			p.one.Lead.E.Least(fresh.Lead.E) != p.least && p.other.Lead.E.Least(fresh.Lead.E) != p.least
	})
}

// newPairs of a new member: none into whose least one that of another goes, because that and an older pair tell what it would tell.
func (m *making) newPairs(fresh *member) []pair {
	var all []pair
	for _, x := range m.members[fresh.Lead.Place] {
		if !x.gone {
			all = append(all, m.newPair(x, fresh))
		}
	}
	slices.SortStableFunc(all, func(p, q pair) int { return cmp.Compare(p.degree, q.degree) })
	var kept []pair
	for _, p := range all {
		if !slices.ContainsFunc(kept, func(q pair) bool { return q.least.Into(p.least) }) {
			kept = append(kept, p)
		}
	}
	return kept
}

func (m *making) newPair(one, other *member) pair {
	least := one.Lead.E.Least(other.Lead.E)
	return pair{
		one:    one,
		other:  other,
		least:  least,
		degree: least.Degree() + m.degrees[one.Lead.Place],
		key:    m.order.KeyTimes(one.Lead, least.Over(one.Lead.E)),
	}
}

// finish: as long as there are pairs of up to a degree, what the least of them leaves is a new member.
func (m *making) finish(degree int) {
	for !m.work.spent() {
		p, found := m.takePair(degree)
		if !found {
			return
		}
		if left := m.left(m.between(p)); len(left) > 0 {
			m.add(left)
		}
	}
}

// takePair: the least one away from the others; false, if there is none of up to a degree. What is made of it has no lesser degree than what was made so far, so little is made that a later one makes needless.
func (m *making) takePair(degree int) (pair, bool) {
	if len(m.pairs) == 0 {
		return pair{}, false
	}
	least := 0
	for i, p := range m.pairs {
		if comparePairs(p, m.pairs[least]) < 0 {
			least = i
		}
	}
	taken := m.pairs[least]
	if taken.degree > degree {
		return pair{}, false
	}
	m.pairs = slices.Delete(m.pairs, least, least+1)
	return taken, true
}

func comparePairs(p, q pair) int {
	return cmp.Or(cmp.Compare(p.degree, q.degree), cmp.Compare(p.key, q.key))
}

// between the two of a pair: the difference of both, scaled so that their Leads cancel each other.
func (m *making) between(p pair) *flat.Sum {
	return flat.NewSum(m.order,
		m.order.Scale(flat.Term{C: 1, E: p.least.Over(p.one.Lead.E)}, p.one.Rest),
		m.order.Scale(flat.Term{C: m.order.Negative(1), E: p.least.Over(p.other.Lead.E)}, p.other.Rest))
}

// find a member that goes into a term, or nil.
func (m *making) find(t flat.Term) *flat.Divisor {
	for _, x := range m.members[t.Place] {
		if !x.gone && x.Into(t) {
			return &x.Divisor
		}
	}
	return nil
}

// left of a sum, divided by the members; nothing, if the work is spent.
func (m *making) left(s *flat.Sum) flat.Vector {
	var left flat.Vector
	s.Divide(m.find, m.goOn, func(t flat.Term) bool {
		left = append(left, t)
		return true
	})
	if m.work.spent() {
		return nil
	}
	return left
}

// leaves a sum anything, divided by the members?
func (m *making) leaves(s *flat.Sum) bool {
	anything := false
	s.Divide(m.find, m.goOn, func(flat.Term) bool {
		anything = true
		return false
	})
	return anything
}

// goOn, as long as there is work allowed.
func (m *making) goOn(d *flat.Divisor, _ flat.Term) bool {
	m.work.spend(1 + len(d.Rest))
	return !m.work.spent()
}

// fill the terms of a vector up to one degree. Then a member is never taken away from what has a lesser degree, and what is made stays small: without that, one with a small Lead and great terms behind it would be taken away everywhere.
func (m *making) fill(v flat.Vector) {
	degree := 0
	for _, t := range v {
		degree = max(degree, t.E.Degree()+m.degrees[t.Place])
	}
	for i, t := range v {
		v[i].E[len(t.E)-1] = uint16(degree - t.E.Degree() - m.degrees[t.Place])
	}
}

// emptied: the members, without what their terms are filled up by.
func (m *making) emptied() []flat.Vector {
	var all []flat.Vector
	for _, x := range slices.Concat(m.members...) {
		if x.gone {
			continue
		}
		v := x.all()
		for i, t := range v {
			v[i].E[len(t.E)-1] = 0
		}
		all = append(all, v)
	}
	return all
}

// leads of the members that are not gone.
func (m *making) leads() flat.Vector {
	var l flat.Vector
	for _, x := range slices.Concat(m.members...) {
		if !x.gone {
			l = append(l, x.Lead)
		}
	}
	return l
}

// reduced: of vectors that are a basis those that are needed, each without a term that the Lead of another goes into; the least one is the first one.
func reduced(order *flat.Order, places int, l []flat.Vector) []flat.Vector {
	slices.SortStableFunc(l, func(v, w flat.Vector) int { return cmp.Compare(v[0].Key, w[0].Key) })
	m := newMaking(order, make([]int, places))
	var all []flat.Vector
	for _, v := range l {
		if m.find(v[0]) != nil {
			continue
		}
		// Into its other terms only lesser Leads go, and those stand ahead.
		v = append(flat.Vector{v[0]}, m.left(flat.NewSum(order, v[1:]))...)
		m.put(m.newMember(v))
		all = append(all, v)
	}
	return all
}
