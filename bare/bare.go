// Package bare: what the layers reckon by when all was looked at already: without limits and without errors, because what is only on the way may be greater than what may come out.
package bare

import (
	"cmp"
	"slices"

	"syzygist/api"
)

// Degree of a monomial.
func Degree(e []int) int {
	sum := 0
	for _, x := range e {
		sum += x
	}
	return sum
}

// Compare two monomials by the ring's order: -1, 0 or 1.
func Compare(r api.Ring, a, b []int) int {
	if c := cmp.Compare(Degree(a), Degree(b)); c != 0 {
		return c
	}
	if r.Order == api.OrderReverse {
		return compareReverse(a, b)
	}
	return slices.Compare(a, b)
}

// Sum of polynomials, in new memory.
func Sum(r api.Ring, polys ...api.Poly) api.Poly {
	return sumOf(r, 0, len(polys), func(i int) api.Poly { return clone(polys[i]) })
}

// Product of two polynomials, in new memory.
func Product(r api.Ring, f, g api.Poly) api.Poly {
	// A term times a polynomial needs no merging: the fewer such rows, the better.
	if len(f) > len(g) {
		f, g = g, f
	}
	return sumOf(r, 0, len(f), func(i int) api.Poly { return scale(r, f[i], g) })
}

// compareReverse of two of the same degree: less of the last variable in which they differ is greater.
func compareReverse(a, b []int) int {
	for i := len(a) - 1; i >= 0; i-- {
		if c := cmp.Compare(b[i], a[i]); c != 0 {
			return c
		}
	}
	return 0
}

// sumOf polynomials that are made when they are needed: by halves, so that those that are merged are alike in length.
func sumOf(r api.Ring, from, to int, nth func(i int) api.Poly) api.Poly {
	if from == to {
		return nil
	}
	if from+1 == to {
		return nth(from)
	}
	middle := (from + to) / 2
	return merge(r, sumOf(r, from, middle, nth), sumOf(r, middle, to, nth))
}

// merge adds two; the terms of the sum have the exponents of those that are handed in, which are given up for it.
func merge(r api.Ring, f, g api.Poly) api.Poly {
	sum := make(api.Poly, 0, len(f)+len(g))
	for len(f) > 0 && len(g) > 0 {
		switch Compare(r, f[0].E, g[0].E) {
		case 1:
			sum, f = append(sum, f[0]), f[1:]
		case -1:
			sum, g = append(sum, g[0]), g[1:]
		default:
			if c := (f[0].C + g[0].C) % r.P; c != 0 {
				sum = append(sum, api.Term{C: c, E: f[0].E})
			}
			f, g = f[1:], g[1:]
		}
	}
	return append(append(sum, f...), g...)
}

func clone(f api.Poly) api.Poly {
	made := make(api.Poly, len(f))
	for i, t := range f {
		made[i] = api.Term{C: t.C, E: slices.Clone(t.E)}
	}
	return made
}

// scale by a term: what falls still falls, and no coefficient comes to 0, because P is a prime.
func scale(r api.Ring, by api.Term, f api.Poly) api.Poly {
	made := make(api.Poly, len(f))
	for i, t := range f {
		e := make([]int, len(t.E))
		for k := range e {
			e[k] = by.E[k] + t.E[k]
		}
		made[i] = api.Term{C: by.C * t.C % r.P, E: e}
	}
	return made
}
