package member_test

import (
	"fmt"
	"regexp"
	"strconv"
	"strings"
	"testing"

	"syzygist/api"
	"syzygist/member"
	"syzygist/poly"
)

// longLists, with some vectors that are in the module of each one, and some that are not. If only one order is tried, the polynomials by which the first of them are made come out with too many terms for Combine.
var longLists = []struct {
	prime, rank     int
	list, in, notIn string
}{
	{
		101, 1, "94y3; 0; 92x2y + 9xy2 + 48x2z + 30xz + 28; 62xyz + 53z3 + 99xy",
		"1; 62xyz + 53z3 + 99xy", "",
	},
	{
		101, 2, "0, 55z3; 15x2z + 13yz, 18x2y + 81xy2 + 55; 3y3, 8x2z; 79, 6xy2 + 33xyz + 28z3",
		"0, 1; 1, 0; 17x3 + y, z2 + 100", "",
	},
	{
		101, 2, "23x2z + 32xz + 96, 58x3 + 62x2z; 83x2y + 86xy2 + 12x2z, 4xy2 + 10xz2 + 70; 0, 14z3; 26xy2 + 3y2, 16xyz + 67z3",
		"x2 + 33x + z + 76, 28x + 58z + 9; 47x + 23z + 76, z2 + 52x + 21z + 61", "1, 0; 47x + 23z + 76, z2 + 52x + 21z + 62",
	},
	{
		101, 2, "55x3, 0; 13x2y + 27y3 + 84xz2 + 81x2, 8x2y + 15xy2 + 4yz2 + 36; 82xy2 + 95yz2, 35x3 + 5xz2; 9xy2 + 73x2z + 77xyz + 2xz2 + 29y, 72x3 + 74x2y + 15x2z + 53y2z + 81xz2",
		"93xy, x2 + 30y2 + 55xz + 3yz + 61z2", "1, 0",
	},
	{
		2, 2, "x2z + xyz, x2y + xy2 + z3 + y; xy2 + 1, 0; 0, y3; x2y + yz2, xy2 + x2z + 1",
		"0, 1; x + y, x2y + z", "1, 0; yz2, 1",
	},
}

// readList: semicolons part its vectors, if there are any, commas their polynomials; a term is its coefficient, and its variables with their exponents.
func readList(r api.Ring, text string) []api.Vector {
	if text == "" {
		return nil
	}
	var l []api.Vector
	for _, vector := range strings.Split(text, ";") {
		var v api.Vector
		for _, sum := range strings.Split(vector, ",") {
			var terms []api.Term
			for _, t := range strings.Split(sum, "+") {
				terms = append(terms, readTerm(strings.TrimSpace(t)))
			}
			f, _ := poly.Of(r, terms)
			v = append(v, f)
		}
		l = append(l, v)
	}
	return l
}

func readTerm(text string) api.Term {
	variables := strings.TrimLeft(text, "0123456789")
	e := make([]int, 3)
	for _, m := range regexp.MustCompile("([xyz])([0-9]?)").FindAllStringSubmatch(variables, -1) {
		e[m[1][0]-'x'] = readNumber(m[2])
	}
	return term(readNumber(strings.TrimSuffix(text, variables)), e...)
}

// readNumber: 1, if none is written.
func readNumber(text string) int {
	if text == "" {
		return 1
	}
	n, _ := strconv.Atoi(text)
	return n
}

// G1, G2: whatever the order, Combine makes a vector by what is lifted, without an error, of lists whose polynomials come out long.
func TestLong(t *testing.T) {
	for i, c := range longLists {
		for _, order := range []int{api.OrderReverse, api.OrderWords} {
			for _, first := range []int{api.OverMono, api.OverPlace} {
				r := over(api.Ring{P: c.prime, N: 3}, order, first)
				t.Run(fmt.Sprint(i, order, first), func(t *testing.T) {
					t.Parallel()
					l := readList(r, c.list)
					for _, v := range readList(r, c.in) {
						wantIn(t, "in", r, c.rank, v, l, true)
					}
					for _, v := range readList(r, c.notIn) {
						wantIn(t, "not in", r, c.rank, v, l, false)
					}
				})
			}
		}
	}
}

// P3: what is free is the same each time, long or not.
func TestLongAgain(t *testing.T) {
	r := over(api.Ring{P: 101, N: 3}, api.OrderWords, api.OverPlace)
	l := readList(r, longLists[0].list)
	first, _, _ := member.Lift(r, 1, api.Vector{one(1, 0, 0, 0)}, l)
	second, _, _ := member.Lift(r, 1, api.Vector{one(1, 0, 0, 0)}, l)
	if len(first) != len(l) || !same(first, second) {
		t.Errorf("the second time it is %v, and was %v", second, first)
	}
}
