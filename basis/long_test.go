package basis_test

import (
	"fmt"
	"regexp"
	"strconv"
	"strings"
	"testing"

	"syzygist/api"
	"syzygist/basis"
	"syzygist/poly"
)

// longLists: if no order but the ring's own is tried, the polynomials by which the basis of each one is made, or a part of it, come out with too many terms for Combine.
var longLists = []struct {
	prime, rank int
	text        string
}{
	{101, 1, "94y3; 0; 92x2y + 9xy2 + 48x2z + 30xz + 28; 62xyz + 53z3 + 99xy"},
	{101, 2, "0, 55z3; 15x2z + 13yz, 18x2y + 81xy2 + 55; 3y3, 8x2z; 79, 6xy2 + 33xyz + 28z3"},
	{101, 2, "23x2z + 32xz + 96, 58x3 + 62x2z; 83x2y + 86xy2 + 12x2z, 4xy2 + 10xz2 + 70; 0, 14z3; 26xy2 + 3y2, 16xyz + 67z3"},
	{101, 3, "14xy2 + 67y2 + 68, 42x2y + 27x2, 100; 0, 15xz2, 0; 85x2z + 30xyz + 87y2z + 54, 61, 94x2z + 37y2z + 59yz2; 60xz, 51xy2, 16yz2"},
	{2, 2, "x2z + xz2 + z3, x2y + y2 + z; x3 + xyz + z3, y2z; y3, 0; xz2 + 1, xz2 + y"},
	{2, 3, "yz2 + y2 + 1, yz2, yz2; 0, y3, 0; 0, x2y + x2z + z2, y3 + 1; x2y + xy2 + xz2 + y, xy2 + yz2 + 1, xy2 + y3 + xyz"},
}

// readList: semicolons part its vectors, commas their polynomials; a term is its coefficient, and its variables with their exponents.
func readList(r api.Ring, text string) []api.Vector {
	var l []api.Vector
	for _, vector := range strings.Split(text, ";") {
		var v api.Vector
		for _, sum := range strings.Split(vector, ",") {
			var terms []api.Term
			for _, t := range strings.Split(sum, "+") {
				terms = append(terms, readTerm(strings.TrimSpace(t)))
			}
			f, _ := poly.Of(r, terms)
			v = append(v, f)
		}
		l = append(l, v)
	}
	return l
}

func readTerm(text string) api.Term {
	variables := strings.TrimLeft(text, "0123456789")
	e := make([]int, 3)
	for _, m := range regexp.MustCompile("([xyz])([0-9]?)").FindAllStringSubmatch(variables, -1) {
		e[m[1][0]-'x'] = readNumber(m[2])
	}
	return term(readNumber(strings.TrimSuffix(text, variables)), e...)
}

// readNumber: 1, if none is written.
func readNumber(text string) int {
	if text == "" {
		return 1
	}
	n, _ := strconv.Atoi(text)
	return n
}

// F2: whatever the order, Combine makes each vector of a basis by what is told, without an error, of lists whose polynomials come out long.
func TestLong(t *testing.T) {
	for i, c := range longLists {
		for _, order := range []int{api.OrderReverse, api.OrderWords} {
			for _, first := range []int{api.OverMono, api.OverPlace} {
				r := over(api.Ring{P: c.prime, N: 3}, order, first)
				t.Run(fmt.Sprint(i, order, first), func(t *testing.T) {
					t.Parallel()
					if b := wantBasis(t, r, c.rank, readList(r, c.text)); len(b) == 0 {
						t.Error("there is none")
					}
				})
			}
		}
	}
}

// F2: with its variables, its vectors or its places turned a list is as long, and Combine makes its basis all the same.
func TestLongTurned(t *testing.T) {
	r := over(api.Ring{P: 101, N: 3}, api.OrderReverse, api.OverMono)
	text := longLists[1].text
	for _, turned := range []string{"xyz", "xzy", "yxz", "yzx", "zxy", "zyx"} {
		l := readList(r, strings.NewReplacer("x", turned[:1], "y", turned[1:2], "z", turned[2:]).Replace(text))
		t.Run(turned, func(t *testing.T) {
			t.Parallel()
			wantBasis(t, r, 2, []api.Vector{l[3], l[1], l[0], l[2]})
			for i, v := range l {
				l[i] = api.Vector{v[1], v[0]}
			}
			wantBasis(t, r, 2, l)
		})
	}
}

// F2: of this list no order alone leaves polynomials that are short enough for each vector.
func TestLongest(t *testing.T) {
	t.Parallel()
	r := over(api.Ring{P: 101, N: 3}, api.OrderReverse, api.OverMono)
	wantBasis(t, r, 2, readList(r, "55x3, 0; 13x2y + 27y3 + 84xz2 + 81x2, 8x2y + 15xy2 + 4yz2 + 36; 82xy2 + 95yz2, 35x3 + 5xz2; 9xy2 + 73x2z + 77xyz + 2xz2 + 29y, 72x3 + 74x2y + 15x2z + 53y2z + 81xz2"))
}

// P3: what is free is the same each time, long or not.
func TestLongAgain(t *testing.T) {
	r := over(api.Ring{P: 101, N: 3}, api.OrderWords, api.OverPlace)
	l := readList(r, longLists[0].text)
	_, first, _ := basis.Basis(r, 1, l)
	_, second, _ := basis.Basis(r, 1, l)
	if !same(first, second) {
		t.Errorf("the second time it is %v, and was %v", second, first)
	}
}
