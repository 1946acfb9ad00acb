// Package mono: monomials: see doc/02-mono.md.
package mono

import (
	"slices"

	"syzygist/api"
	"syzygist/bare"
	"syzygist/field"
)

// Ring: is one right?
func Ring(r api.Ring) api.Errno {
	if err := field.Check(r.P); err != api.OK {
		return err
	}
	if r.N < 1 || r.N > api.MaxVars {
		return api.ErrRange
	}
	if r.Order != api.OrderReverse && r.Order != api.OrderWords {
		return api.ErrKind
	}
	if r.Over != api.OverMono && r.Over != api.OverPlace {
		return api.ErrKind
	}
	return api.OK
}

// Check a monomial.
func Check(r api.Ring, e []int) api.Errno { return checkAll(r, e) }

// Times: the product.
func Times(r api.Ring, a, b []int) ([]int, api.Errno) {
	return together(r, a, b, func(x, y int) int { return x + y })
}

// Least one that both go into.
func Least(r api.Ring, a, b []int) ([]int, api.Errno) {
	return together(r, a, b, func(x, y int) int { return max(x, y) })
}

// Over: the quotient.
func Over(r api.Ring, a, b []int) ([]int, api.Errno) {
	if err := checkAll(r, a, b); err != api.OK {
		return nil, err
	}
	quotient := eachPair(a, b, func(x, y int) int { return x - y })
	if slices.Min(quotient) < 0 {
		return nil, api.ErrNone
	}
	return quotient, api.OK
}

// Order of two.
func Order(r api.Ring, a, b []int) (int, api.Errno) {
	if err := checkAll(r, a, b); err != api.OK {
		return 0, err
	}
	return bare.Compare(r, a, b), api.OK
}

// checkAll of some monomials: of the first one all errors ahead of those of the next.
func checkAll(r api.Ring, monomials ...[]int) api.Errno {
	if err := Ring(r); err != api.OK {
		return err
	}
	for _, e := range monomials {
		if err := checkExponents(r.N, e); err != api.OK {
			return err
		}
	}
	return api.OK
}

func checkExponents(n int, e []int) api.Errno {
	if len(e) != n {
		return api.ErrForm
	}
	// One that is too great by itself is told here, so that the sum cannot wrap round.
	if slices.ContainsFunc(e, func(x int) bool { return x < 0 || x > api.MaxDegree }) {
		return api.ErrRange
	}
	if bare.Degree(e) > api.MaxDegree {
		return api.ErrRange
	}
	return api.OK
}

// together: what is made of each two exponents, if its degree is not too great.
func together(r api.Ring, a, b []int, do func(x, y int) int) ([]int, api.Errno) {
	if err := checkAll(r, a, b); err != api.OK {
		return nil, err
	}
	made := eachPair(a, b, do)
	if bare.Degree(made) > api.MaxDegree {
		return nil, api.ErrMany
	}
	return made, api.OK
}

func eachPair(a, b []int, do func(x, y int) int) []int {
	made := make([]int, len(a))
	for i := range made {
		made[i] = do(a[i], b[i])
	}
	return made
}
