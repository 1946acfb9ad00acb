package complete

import (
	"cmp"
	"slices"

	"syzygist/api"
	"syzygist/field"
	"syzygist/flat"
)

// How much work may be done to trim one way, in the search and in its end; how many looks at a coefficient are as much work as a term that is taken away; by how much at most a way is too long that is trimmed, by how many ways that make nothing, and among how many monomials.
const (
	trimWork    = 1 << 23
	lastWork    = 1 << 25
	looks       = 16
	near        = 2 * api.MaxTerms
	mostAddends = 400
	mostRoom    = 1 << 21
)

// trimmer of ways that are still a little too long. What Combine counts are the terms of the products of a way and the list; so something that makes nothing is added, times whatever, wherever that leaves less that is too many.
type trimmer struct {
	*shortener
	inverses []int
	addends  []addend
	ready    int
}

// addend: a way that makes nothing, its products, and their greatest exponents.
type addend struct {
	way      way
	products []flat.Vector
	most     flat.Exponents
}

func newTrimmer(s *shortener) *trimmer {
	t := &trimmer{shortener: s, inverses: make([]int, s.ring.P)}
	for c := 1; c < s.ring.P; c++ {
		t.inverses[c], _ = field.Inverse(s.ring.P, c)
	}
	return t
}

// trim a way, as long as something is gained and there is work left. By how much it is too long then is told, too.
func (t *trimmer) trim(w way, work int) (way, int) {
	b := newBox(t, t.order.Own(w), work)
	for gained := b.room() <= mostRoom && tooMany(b.terms) <= near; gained; {
		gained = false
		for i := range t.addends {
			if tooMany(b.terms) > 0 && !b.work.spent() {
				gained = b.addAll(&t.addends[i]) || gained
			}
		}
	}
	t.work.spend((work - b.work.terms) / looks)
	return b.sum.All(), tooMany(b.terms)
}

// gather the shortest ways that make nothing out of the bases of all orders that are ready, if these are at least so many.
func (t *trimmer) gather(least int) {
	var bases []*making
	for _, o := range t.others {
		if o.basis != nil && !o.needless {
			bases = append(bases, o.basis)
		}
	}
	if len(bases) < least {
		return
	}
	t.ready = len(bases)
	t.addends = nil
	for _, w := range t.shortest(bases) {
		products := t.productsOf(w)
		t.addends = append(t.addends, addend{w, products, mostOf(products)})
	}
}

// shortest ways of some bases, from the shortest one on.
func (t *trimmer) shortest(bases []*making) []way {
	var all []way
	for _, b := range bases {
		for _, x := range slices.Concat(b.members...) {
			if !x.gone {
				all = append(all, t.order.Monic(t.order.Own(x.all())))
			}
		}
	}
	slices.SortFunc(all, compareWays)
	all = slices.CompactFunc(all, func(v, w way) bool { return slices.Equal(v, w) })
	return all[:min(len(all), mostAddends)]
}

// compareWays: a shorter one is less.
func compareWays(v, w way) int {
	return cmp.Or(cmp.Compare(len(v), len(w)), slices.CompareFunc(v, w, func(t, u flat.Term) int {
		return cmp.Or(cmp.Compare(t.Key, u.Key), cmp.Compare(t.C, u.C))
	}))
}

// productsOf a way: of each polynomial of it with each one of its vector.
func (t *trimmer) productsOf(w way) []flat.Vector {
	var all []flat.Vector
	for i, v := range t.list {
		part := slices.DeleteFunc(slices.Clone(w), func(x flat.Term) bool { return int(x.Place) != i })
		for _, f := range v {
			sum := flat.NewSum(t.order)
			for _, by := range f {
				t.work.spend(len(part))
				sum.Add(t.order.Scale(t.order.Term(i, by), part))
			}
			all = append(all, sum.All())
		}
	}
	return all
}

// mostOf vectors: the least exponents that all terms go into.
func mostOf(l []flat.Vector) flat.Exponents {
	var most flat.Exponents
	for _, v := range l {
		for _, t := range v {
			most = most.Least(t.E)
		}
	}
	return most
}
