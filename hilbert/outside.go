package hilbert

import (
	"slices"

	"syzygist/api"
	"syzygist/complete"
	"syzygist/flat"
)

// outside of a module: the terms that no Lead of a basis of it goes into. Modulo the module they are independent, and all others are sums of them.
type outside struct {
	variables int
	degrees   []int
	leads     [][]flat.Exponents
}

func newOutside(r api.Ring, degrees []int, l []api.Vector) *outside {
	return &outside{variables: r.N, degrees: degrees, leads: complete.Leads(r, degrees, l)}
}

// count those of a degree, at whatever place.
func (o *outside) count(degree int) int {
	sum := 0
	for place, leads := range o.leads {
		sum += howMany(o.variables, degree-o.degrees[place], func(e flat.Exponents) bool {
			return !slices.ContainsFunc(leads, func(lead flat.Exponents) bool { return lead.Into(e) })
		})
	}
	return sum
}

// last degree for which the numerator may have a number: those that some Leads of a place all go into are counted from the least of them on, and that goes into the least one of all its Leads.
func (o *outside) last() int {
	last := 0
	for place, leads := range o.leads {
		var least flat.Exponents
		for _, lead := range leads {
			least = least.Least(lead)
		}
		last = max(last, o.degrees[place]+least.Degree())
	}
	return last
}
