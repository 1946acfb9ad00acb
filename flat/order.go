package flat

import (
	"slices"

	"syzygist/api"
	"syzygist/field"
)

// How a key is laid out, from its lowest bits on: the place (where the monomial counts first), two exponents (the third one follows from the degree), the degree, the place (where it counts first). No degree comes near to what there is room for.
const (
	placeBits    = 8
	exponentBits = 14
	degreeAt     = placeBits + 2*exponentBits
	firstPlaceAt = degreeAt + exponentBits
	behindAll    = -1 << (firstPlaceAt + placeBits)
)

// Order of the terms of vectors, as keys: of two terms the greater one has the greater key, and a monomial, as a factor, adds the same to each.
type Order struct {
	prime  uint32
	weight [api.MaxVars]int64
	start  []int64
}

// NewOrder of vectors of a ring. Behind their places there may be more, for what a vector is made of: all that stands there is less than all that stands ahead, and the monomial counts first.
func NewOrder(r api.Ring, rank, more int) *Order {
	o := &Order{prime: uint32(r.P)}
	for i := range r.N {
		o.weight[i] = weight(r.Order, i)
	}
	for place := range rank {
		o.start = append(o.start, start(r.Over, place))
	}
	for place := range more {
		o.start = append(o.start, behindAll+start(api.OverMono, place))
	}
	return o
}

// NewGraded: an order of vectors whose places have degrees of their own, and more places behind them. The degree of a term, that of its monomial and that of its place, counts first; then those two exponents count that the ring's order looks at, and then the place.
func NewGraded(r api.Ring, degrees, more []int) *Order {
	r.Over = api.OverMono
	o := NewOrder(r, len(degrees), len(more))
	for place, d := range slices.Concat(degrees, more) {
		o.start[place] += int64(d) << degreeAt
	}
	return o
}

// NewTurned: an order of vectors of a ring whose variables, and whose places, count as if each stood where it stands in these lists.
func NewTurned(r api.Ring, variables, places []int) *Order {
	o := &Order{prime: uint32(r.P), start: make([]int64, len(places))}
	for i, variable := range variables {
		o.weight[variable] = weight(r.Order, i)
	}
	for i, place := range places {
		o.start[place] = start(r.Over, i)
	}
	return o
}

// weight of a variable: what one more of it adds to a key.
func weight(order, variable int) int64 {
	w := int64(1) << degreeAt
	if order == api.OrderReverse {
		if variable > 0 {
			w -= 1 << (placeBits + exponentBits*(variable-1))
		}
		return w
	}
	if variable < 2 {
		w += 1 << (placeBits + exponentBits*(1-variable))
	}
	return w
}

// start: the key of 1 at a place.
func start(over, place int) int64 {
	less := int64(1<<placeBits - 1 - place)
	if over == api.OverPlace {
		return less << firstPlaceAt
	}
	return less
}

// Term at a place.
func (o *Order) Term(place int, t api.Term) Term {
	made := Term{Key: o.start[place], Place: uint8(place), C: uint8(t.C)}
	for i, x := range t.E {
		made.E[i] = uint16(x)
	}
	made.Key += o.added(made.E)
	return made
}

// Unit: 1, at a place.
func (o *Order) Unit(place int) Term { return Term{Key: o.start[place], Place: uint8(place), C: 1} }

// Vector of polynomials that stand from a place on.
func (o *Order) Vector(from int, v api.Vector) Vector {
	var made Vector
	for place, f := range v {
		for _, t := range f {
			made = append(made, o.Term(from+place, t))
		}
	}
	made.sort()
	return made
}

// Own: a vector that stands in another order, in this one.
func (o *Order) Own(v Vector) Vector {
	own := slices.Clone(v)
	for i, t := range own {
		own[i].Key = o.KeyTimes(o.Unit(int(t.Place)), t.E)
	}
	own.sort()
	return own
}

// Scale a vector by a term; where that stands does not count.
func (o *Order) Scale(by Term, v Vector) Vector {
	more := o.added(by.E)
	made := make(Vector, len(v))
	for i, t := range v {
		made[i] = Term{Key: t.Key + more, E: t.E.Times(by.E), Place: t.Place, C: o.times(t.C, by.C)}
	}
	return made
}

// Monic: a vector with a term, scaled so that its Lead has the coefficient 1.
func (o *Order) Monic(v Vector) Vector { return o.Scale(Term{C: o.inverse(v[0].C)}, v) }

// KeyTimes: the key that a term has, times a monomial.
func (o *Order) KeyTimes(t Term, by Exponents) int64 { return t.Key + o.added(by) }

// added to a key by a monomial. What vectors are filled up by adds nothing: among terms of one degree it follows from the others.
func (o *Order) added(e Exponents) int64 {
	sum := int64(0)
	for i, w := range o.weight {
		sum += int64(e[i]) * w
	}
	return sum
}

func (o *Order) times(a, b uint8) uint8 { return uint8(uint32(a) * uint32(b) % o.prime) }

// inverse of a number that is not 0.
func (o *Order) inverse(c uint8) uint8 {
	inverse, _ := field.Inverse(int(o.prime), int(c))
	return uint8(inverse)
}

// Negative of a number that is not 0.
func (o *Order) Negative(c uint8) uint8 { return uint8(o.prime) - c }

// merge adds two vectors.
func (o *Order) merge(v, w Vector) Vector {
	sum := make(Vector, 0, len(v)+len(w))
	for len(v) > 0 && len(w) > 0 {
		switch {
		case v[0].Key > w[0].Key:
			sum, v = append(sum, v[0]), v[1:]
		case v[0].Key < w[0].Key:
			sum, w = append(sum, w[0]), w[1:]
		default:
			t := v[0]
			t.C = uint8((uint32(t.C) + uint32(w[0].C)) % o.prime)
			if t.C != 0 {
				sum = append(sum, t)
			}
			v, w = v[1:], w[1:]
		}
	}
	return append(append(sum, v...), w...)
}
