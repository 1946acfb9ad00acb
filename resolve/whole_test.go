package resolve_test

import (
	"slices"
	"testing"

	"syzygist/api"
	"syzygist/basis"
	"syzygist/divide"
	"syzygist/hilbert"
	"syzygist/member"
	"syzygist/poly"
	"syzygist/resolve"
	"syzygist/syzygy"
	"syzygist/vector"
)

// What the whole promises: each list goes through all layers.
func TestWhole(t *testing.T) {
	for _, r := range rings() {
		for seed := range 12 {
			d := drawer(5000 + seed)
			degrees, l := d.list(r, 1+seed%3, 1+seed%4, 3)
			c := make([]api.Poly, len(l))
			for i := range c {
				c[i] = d.poly(r, 2, 1)
			}
			wantDivided(t, r, len(degrees), d.vector(r, len(degrees)), l)
			wantOneBasis(t, r, len(degrees), l)
			wantLifted(t, r, len(degrees), c, l)
			wantSyzygies(t, r, len(degrees), c, l)
			wantTold(t, r, degrees, l)
			wantResolved(t, r, degrees, l)
		}
	}
}

// vector of a rank, of whatever degrees.
func (d *drawer) vector(r api.Ring, rank int) api.Vector {
	v := make(api.Vector, rank)
	for i := range v {
		v[i], _ = poly.Add(r, d.poly(r, 4, 3), d.poly(r, 3, 2))
	}
	return v
}

// wantDivided: a vector is the sum of the quotients times the list's, and what is left.
func wantDivided(t *testing.T, r api.Ring, rank int, v api.Vector, l []api.Vector) {
	t.Helper()
	quotients, left, err := divide.Divide(r, rank, v, l)
	if err != api.OK {
		t.Fatalf("Divide(%v, %d, %v, %v): %d", r, rank, v, l, err)
	}
	made, _ := vector.Combine(r, rank, quotients, l)
	if sum, err := vector.Add(r, made, left); err != api.OK || !same(sum, v) {
		t.Errorf("Divide(%v, %d, %v, %v): the sum is %v %d", r, rank, v, l, sum, err)
	}
	if normal, err := divide.Normal(r, rank, left, l); !normal || err != api.OK {
		t.Errorf("Divide(%v, %d, %v, %v): left is %v: %d", r, rank, v, l, left, err)
	}
}

// wantOneBasis: each module has just one reduced basis, whichever list tells it.
func wantOneBasis(t *testing.T, r api.Ring, rank int, l []api.Vector) {
	t.Helper()
	other := slices.Clone(l)
	slices.Reverse(other)
	if len(other) > 1 {
		other[0], _ = vector.Add(r, other[0], other[1])
	}
	if basis.Check(r, rank, other) != api.OK {
		return
	}
	first, _, err := basis.Basis(r, rank, l)
	second, _, _ := basis.Basis(r, rank, other)
	if err != api.OK || !same(first, second) {
		t.Errorf("%v: the basis of %v is %v %d, that of %v is %v", r, l, first, err, other, second)
	}
}

// wantLifted: what is lifted is made.
func wantLifted(t *testing.T, r api.Ring, rank int, c []api.Poly, l []api.Vector) {
	t.Helper()
	v, _ := vector.Combine(r, rank, c, l)
	if basis.Check(r, rank, []api.Vector{v}) != api.OK {
		return
	}
	by, in, err := member.Lift(r, rank, v, l)
	if made, _ := vector.Combine(r, rank, by, l); !in || err != api.OK || !same(made, v) {
		t.Errorf("Lift(%v, %d, %v, %v): %v %v %d makes %v", r, rank, v, l, by, in, err, made)
	}
}

// wantSyzygies: each of the answer is one, and whatever is one leaves nothing, divided by them.
func wantSyzygies(t *testing.T, r api.Ring, rank int, c []api.Poly, l []api.Vector) {
	t.Helper()
	all, err := syzygy.Syzygies(r, rank, l)
	if err != api.OK {
		t.Fatalf("Syzygies(%v, %d, %v): %d", r, rank, l, err)
	}
	sum := make(api.Vector, len(l))
	for i, s := range all {
		if is, err := syzygy.Is(r, rank, l, s); !is || err != api.OK {
			t.Errorf("Syzygies(%v, %d, %v): %v is none: %d", r, rank, l, s, err)
		}
		scaled, _ := vector.Scale(r, c[i%len(c)], s)
		sum, _ = vector.Add(r, sum, scaled)
	}
	if is, err := syzygy.Is(r, rank, l, sum); !is || err != api.OK {
		t.Errorf("%v: %v is no syzygy of %v: %d", r, sum, l, err)
	}
	if _, left, err := divide.Divide(r, len(l), sum, all); err != api.OK || !same(left, make(api.Vector, len(l))) {
		t.Errorf("%v: %v, divided by %v, leaves %v %d", r, sum, all, left, err)
	}
}

// wantTold: what is counted is told by the numerator, for each degree, and that by the Betti numbers, with their signs turned at each step.
func wantTold(t *testing.T, r api.Ring, degrees []int, l []api.Vector) {
	t.Helper()
	numerator, err := hilbert.Numerator(r, degrees, l)
	betti, other := resolve.Betti(r, degrees, l)
	if err != api.OK || other != api.OK || !slices.Equal(numerator, alternating(betti)) {
		t.Errorf("%v, %v, %v: the numerator is %v %d, and the Betti numbers %v %d", r, degrees, l, numerator, err, betti, other)
	}
	for degree := range 13 {
		sum := 0
		for k, a := range numerator {
			free, _ := hilbert.Free(r.N, degree-k)
			sum += a * free
		}
		if count, err := hilbert.Count(r, degrees, l, degree); count != sum || err != api.OK {
			t.Errorf("Count(%v, %v, %v, %d): %d %d, by the numerator %d", r, degrees, l, degree, count, err, sum)
		}
	}
}

// wantResolved: the syzygies of each step are made of the next one's, and no step has a unit in it. Of the first step chapter 8 tells the syzygies, and chapter 7, unless they are too great for it, whether the second one makes them; those of the others are counted.
func wantResolved(t *testing.T, r api.Ring, degrees []int, l []api.Vector) {
	t.Helper()
	x := wantResolution(t, r, degrees, l)
	wantExact(t, r, x)
	if len(x.Steps) == 0 {
		return
	}
	all, err := syzygy.Syzygies(r, x.Rank, x.Steps[0].Vectors)
	if err != api.OK || (len(all) > 0) != (len(x.Steps) > 1) {
		t.Fatalf("%v: the syzygies of %v are %v %d", r, x.Steps, all, err)
	}
	for _, s := range all {
		if in, err := member.In(r, len(s), s, x.Steps[1].Vectors); !in && err != api.ErrMany {
			t.Errorf("%v: %v is not made of %v: %d", r, s, x.Steps[1].Vectors, err)
		}
	}
}
