package complete

import (
	"slices"

	"syzygist/api"
	"syzygist/flat"
)

// box of all monomials up to the greatest exponents of a way's products; nothing is added beyond it. Of each product it has how many terms that has, and the coefficient of each monomial.
type box struct {
	*trimmer
	most         flat.Exponents
	terms        []int
	coefficients [][]uint8
	sum          *flat.Sum
	work         *allowance
}

// change of a coefficient.
type change struct {
	at int
	c  uint8
}

func newBox(t *trimmer, w way, work int) *box {
	products := t.productsOf(w)
	b := &box{trimmer: t, most: mostOf(products), sum: flat.NewSum(t.order, w), work: &allowance{work}}
	for _, v := range products {
		b.terms = append(b.terms, len(v))
	}
	if b.room() > mostRoom {
		return b
	}
	b.widen()
	for _, v := range products {
		all := make([]uint8, b.room())
		for _, x := range v {
			all[b.at(x.E)] = x.C
		}
		b.coefficients = append(b.coefficients, all)
	}
	return b
}

// widen the box for each addend, unless it gets too wide.
func (b *box) widen() {
	for _, a := range b.addends {
		narrow := b.most
		if b.most = narrow.Least(a.most); b.room() > mostRoom {
			b.most = narrow
		}
	}
}

// room: how many monomials there are.
func (b *box) room() int { return b.at(b.most) + 1 }

// at: where a monomial stands.
func (b *box) at(e flat.Exponents) int {
	at := 0
	for i := range api.MaxVars {
		at = at*(int(b.most[i])+1) + int(e[i])
	}
	return at
}

// tooMany: by how much products of so many terms have too many, in all.
func tooMany(terms []int) int {
	sum := 0
	for _, n := range terms {
		sum += max(0, n-api.MaxTerms)
	}
	return sum
}

// addAll: an addend, times each monomial that there is room for. Was anything gained?
func (b *box) addAll(a *addend) bool {
	if !a.most.Into(b.most) {
		return false
	}
	changes := b.changes(a)
	room := b.most.Over(a.most)
	gained := false
	for x := range room[0] + 1 {
		for y := range room[1] + 1 {
			for z := range room[2] + 1 {
				gained = b.add(a, changes, flat.Exponents{x, y, z}) || gained
			}
		}
	}
	return gained
}

// changes that an addend makes in each product.
func (b *box) changes(a *addend) [][]change {
	all := make([][]change, len(a.products))
	for i, v := range a.products {
		for _, t := range v {
			all[i] = append(all[i], change{b.at(t.E), t.C})
		}
	}
	return all
}

// add an addend, times a monomial and the best coefficient, if that leaves less that is too many.
func (b *box) add(a *addend, changes [][]change, by flat.Exponents) bool {
	from := b.at(by)
	c := b.best(changes, from)
	if c == 0 {
		return false
	}
	terms := b.termsWith(changes, from, c)
	if tooMany(terms) >= tooMany(b.terms) {
		return false
	}
	for i, all := range b.coefficients {
		for _, x := range changes[i] {
			all[from+x.at] = b.plus(all[from+x.at], c, x.c)
		}
	}
	b.terms = terms
	b.sum.Add(b.order.Scale(flat.Term{C: c, E: by}, a.way))
	return true
}

// plus: a coefficient, and the product of two.
func (b *box) plus(old, c, d uint8) uint8 {
	return uint8((int(old) + int(c)*int(d)) % b.ring.P)
}

// best coefficient of what is added: by it most terms go away, of the products that have too many. It is 0, if more would come.
func (b *box) best(changes [][]change, from int) uint8 {
	var gone [api.MaxPrime]int
	fresh := 0
	for i, all := range b.coefficients {
		if b.terms[i] <= api.MaxTerms {
			continue
		}
		b.work.spend(len(changes[i]))
		for _, x := range changes[i] {
			if old := int(all[from+x.at]); old == 0 {
				fresh++
			} else {
				gone[(b.ring.P-old)*b.inverses[x.c]%b.ring.P]++
			}
		}
	}
	most := slices.Max(gone[:])
	if most <= fresh {
		return 0
	}
	return uint8(slices.Index(gone[:], most))
}

// termsWith what is added: how many each product has then.
func (b *box) termsWith(changes [][]change, from int, c uint8) []int {
	terms := slices.Clone(b.terms)
	for i, all := range b.coefficients {
		for _, x := range changes[i] {
			if old := all[from+x.at]; old == 0 {
				terms[i]++
			} else if b.plus(old, c, x.c) == 0 {
				terms[i]--
			}
		}
	}
	return terms
}
