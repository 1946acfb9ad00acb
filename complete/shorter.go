package complete

import (
	"slices"

	"syzygist/api"
	"syzygist/flat"
	"syzygist/vector"
)

// How much work may be done in search of shorter ways, for all ways of a list, how much of that for those that never come near to what is short enough, and how much to make one order ready for it.
const (
	searchWork = 1 << 27
	farWork    = 1 << 25
	orderWork  = 1 << 22
)

// shortener of ways by which vectors are made of a list: Combine is to make them, and it takes only so many terms. A way makes the same, less whatever makes nothing. What is left of it, divided by all that does, hangs on the order: by one it can have a hundred times the terms that it has by another, and which one is good hangs on the list.
type shortener struct {
	ring    api.Ring
	rank    int
	list    []api.Vector
	order   *flat.Order
	nothing []way
	others  []*other
	best    int
	work    *allowance
	trimmer *trimmer
}

// long: what is made by a way of too many terms, which of the other orders were tried for it, and the best trimmed way so far.
type long struct {
	*Made
	way     way
	tried   []bool
	trimmed way
	much    int
}

func newShortener(r api.Ring, rank int, l []api.Vector, nothing []way) *shortener {
	return &shortener{
		ring:    r,
		rank:    rank,
		list:    l,
		order:   flat.NewOrder(r, len(l), 0),
		nothing: nothing,
		best:    len(l) * api.MaxTerms,
		work:    &allowance{searchWork},
	}
}

// tell by which polynomials vectors are made, if these ways make them: such that Combine makes them, if any are found.
func (s *shortener) tell(all []Made, ways []way) {
	var open []*long
	for i, w := range ways {
		all[i].By = s.polys(w)
		if !s.makes(all[i].By, all[i].Vector) && s.mayBeMade(all[i].Vector) {
			open = append(open, &long{Made: &all[i], way: w})
		}
	}
	if len(open) > 0 {
		s.search(open)
	}
}

// polys: the polynomials of a way, by the ring's own order.
func (s *shortener) polys(w way) []api.Poly {
	return s.order.Own(w).Full(s.ring.N, 0, len(s.list))
}

// makes: does Combine make a vector by polynomials?
func (s *shortener) makes(by []api.Poly, v api.Vector) bool {
	made, err := vector.Combine(s.ring, s.rank, by, s.list)
	return err == api.OK && slices.EqualFunc(made, v, samePoly)
}

// mayBeMade: a vector that is too long itself is not made by any polynomials.
func (s *shortener) mayBeMade(v api.Vector) bool {
	return vector.Check(s.ring, s.rank, []api.Vector{v}) == api.OK
}

func samePoly(f, g api.Poly) bool {
	return slices.EqualFunc(f, g, func(t, u api.Term) bool { return t.C == u.C && slices.Equal(t.E, u.E) })
}

// search for shorter ways: each long one in turn tries one order. So those for which no order is good do not keep the others from theirs.
func (s *shortener) search(open []*long) {
	s.others = otherOrders(s.ring, len(s.list))
	s.trimmer = newTrimmer(s)
	for _, l := range open {
		l.tried = make([]bool, len(s.others))
	}
	for going := true; going && !s.work.spent(); {
		going = false
		var still []*long
		for _, l := range open {
			o := s.choose(l)
			going = going || o != nil
			if o == nil || !s.try(l, o) {
				still = append(still, l)
			}
		}
		open = still
	}
	for _, l := range open {
		s.trimLast(l)
	}
}

// choose the order to be tried next; nil, if there is none.
func (s *shortener) choose(l *long) *other {
	// A way that never came near goes on with what is good for others alone.
	all := l.trimmed != nil || searchWork-s.work.terms < farWork
	best := -1
	for i, o := range s.others {
		if l.tried[i] || o.needless || !all && !o.good {
			continue
		}
		if best < 0 || o.compare(s.others[best], s.best) < 0 {
			best = i
		}
	}
	if best < 0 {
		return nil
	}
	l.tried[best] = true
	s.others[best].asked++
	return s.others[best]
}

// try an order: is what is left of a long way by it short enough?
func (s *shortener) try(l *long, o *other) bool {
	if s.ready(o); o.needless {
		return false
	}
	left, fits := s.left(l.way, o)
	if o.late == 0 {
		s.note(o.family, len(left), fits)
	}
	if !fits {
		return false
	}
	// The shorter it is, the less work has the next order with it; and if none is good, the shortest one is told.
	if len(left) < len(l.way) {
		l.way, l.By = left, s.polys(left)
	}
	if !s.told(l, left) && !s.trim(l, left) {
		return false
	}
	o.good = true
	return true
}

// note how many terms are left by the first order of a family.
func (s *shortener) note(f *family, left int, fits bool) {
	f.left = left
	s.best = min(s.best, left)
	if !fits {
		// There is more than was told; how much is not known.
		f.left *= 2
	}
}

// trim a way: is it short enough then?
func (s *shortener) trim(l *long, w way) bool {
	s.trimmer.gather(2 * s.trimmer.ready)
	trimmed, much := s.trimmer.trim(w, trimWork)
	if much == 0 {
		return s.told(l, trimmed)
	}
	if much <= near && (l.trimmed == nil || much < l.much) {
		l.trimmed, l.much = trimmed, much
	}
	return false
}

// trimLast: what was the best one so far is trimmed by all that is known in the end.
func (s *shortener) trimLast(l *long) {
	if l.trimmed != nil {
		s.trimmer.gather(s.trimmer.ready + 1)
		trimmed, _ := s.trimmer.trim(l.trimmed, lastWork)
		s.told(l, trimmed)
	}
}

// told: if Combine makes a vector by a way, that is told of it.
func (s *shortener) told(l *long, w way) bool {
	by := s.polys(w)
	if !s.makes(by, l.Vector) {
		return false
	}
	l.By = by
	return true
}

// ready: an order has the basis by it of what makes nothing, or, if that takes too much work, a part of one.
func (s *shortener) ready(o *other) {
	if o.basis != nil {
		return
	}
	o.basis = newMaking(o.order, make([]int, len(s.list)))
	o.basis.work = &allowance{orderWork}
	for _, w := range s.nothing {
		if left := o.basis.left(flat.NewSum(o.order, o.order.Own(w))); len(left) > 0 {
			o.basis.add(left)
		}
	}
	o.basis.finish(anyDegree)
	s.work.spend(orderWork - o.basis.work.terms)
	o.leads = s.order.Own(o.basis.leads())
	alike := slices.IndexFunc(s.others, func(p *other) bool { return p != o && slices.Equal(p.leads, o.leads) })
	if alike < 0 {
		return
	}
	o.needless = true
	if o.late == 0 {
		*o.family = *s.others[alike].family
	}
}

// left of a way by an order; false, if that has too many terms for whatever polynomials, or takes too much work.
func (s *shortener) left(w way, o *other) (way, bool) {
	o.basis.work = s.work
	most := len(s.list) * api.MaxTerms
	var left way
	flat.NewSum(o.order, o.order.Own(w)).Divide(o.basis.find, o.basis.goOn, func(t flat.Term) bool {
		left = append(left, t)
		return len(left) <= most
	})
	return left, len(left) <= most && !s.work.spent()
}
