package hilbert

import (
	"iter"

	"syzygist/flat"
)

// howMany monomials of a degree are what is looked for?
func howMany(n, degree int, is func(flat.Exponents) bool) int {
	count := 0
	for e := range monomials(n, degree) {
		if is(e) {
			count++
		}
	}
	return count
}

// monomials of n variables: all that have a degree; below 0 there are none.
func monomials(n, degree int) iter.Seq[flat.Exponents] {
	return func(yield func(flat.Exponents) bool) {
		if n == 1 && degree >= 0 {
			yield(flat.Exponents{uint16(degree)})
			return
		}
		for last := range degree + 1 {
			for e := range monomials(n-1, degree-last) {
				e[n-1] = uint16(last)
				if !yield(e) {
					return
				}
			}
		}
	}
}
