package field_test

import (
	"fmt"
	"math"
	"reflect"
	"testing"

	"syzygist/api"
	"syzygist/field"
)

var primes = []int{2, 3, 5, 7, 11, 13, 17, 19, 23, 29, 31, 37, 41, 43, 47, 53, 59, 61, 67, 71, 73, 79, 83, 89, 97, 101}

// draw gives numbers for long tests, the same each time.
type draw uint64

func (d *draw) below(n int) int {
	*d = *d*6364136223846793005 + 1442695040888963407
	return int(uint64(*d) >> 33 % uint64(n))
}

func drawnRows(d *draw, p, height, width int) [][]int {
	rows := make([][]int, height)
	for i := range rows {
		rows[i] = make([]int, width)
		for j := range rows[i] {
			rows[i][j] = d.below(p)
		}
	}
	return rows
}

func columns(rows [][]int, width int) [][]int {
	turned := make([][]int, width)
	for j := range turned {
		for _, row := range rows {
			turned[j] = append(turned[j], row[j])
		}
	}
	return turned
}

func wantNumber(t *testing.T, what string, got int, err api.Errno, want int, wantErr api.Errno) {
	t.Helper()
	if got != want || err != wantErr {
		t.Errorf("%s: %d %d, must be %d %d", what, got, err, want, wantErr)
	}
}

// A1: what Check says of each number near its range, and of the greatest ones.
func TestCheck(t *testing.T) {
	prime := map[int]bool{}
	for _, p := range primes {
		prime[p] = true
	}
	for p := -10; p <= 130; p++ {
		want := api.ErrState
		if p < 2 || p > 101 {
			want = api.ErrRange
		} else if prime[p] {
			want = api.OK
		}
		if got := field.Check(p); got != want {
			t.Errorf("Check(%d): %d, must be %d", p, got, want)
		}
	}
	for _, p := range []int{math.MinInt, math.MaxInt, 1 << 32, 1<<32 + 7} {
		if got := field.Check(p); got != api.ErrRange {
			t.Errorf("Check(%d): %d, must be ErrRange", p, got)
		}
	}
}

// A1, P1: the modulus is told of ahead of the numbers, those ahead of ErrNone; with an error the number is 0.
func TestWrongNumbers(t *testing.T) {
	for _, c := range []struct {
		p, a, b       int
		both, inverse api.Errno
	}{
		{1, -1, -1, api.ErrRange, api.ErrRange},
		{103, 1, 1, api.ErrRange, api.ErrRange},
		{math.MinInt, 0, 0, api.ErrRange, api.ErrRange},
		{9, 9, 9, api.ErrState, api.ErrState},
		{9, 0, 0, api.ErrState, api.ErrState},
		{91, -1, 0, api.ErrState, api.ErrState},
		{7, 7, 0, api.ErrRange, api.ErrRange},
		{7, -1, 0, api.ErrRange, api.ErrRange},
		{7, 0, 7, api.ErrRange, api.ErrNone},
		{7, 0, -1, api.ErrRange, api.ErrNone},
		{7, math.MaxInt, math.MaxInt, api.ErrRange, api.ErrRange},
		{7, math.MinInt, math.MinInt, api.ErrRange, api.ErrRange},
		{2, 2, 1, api.ErrRange, api.ErrRange},
		{101, 101, 100, api.ErrRange, api.ErrRange},
	} {
		what := fmt.Sprint(c.p, c.a, c.b)
		n, err := field.Add(c.p, c.a, c.b)
		wantNumber(t, "Add "+what, n, err, 0, c.both)
		n, err = field.Mul(c.p, c.a, c.b)
		wantNumber(t, "Mul "+what, n, err, 0, c.both)
		n, err = field.Inverse(c.p, c.a)
		wantNumber(t, "Inverse "+what, n, err, 0, c.inverse)
	}
}

// A2: sums, products and inverses of all numbers modulo all primes.
func TestSumsAndProducts(t *testing.T) {
	for _, p := range primes {
		for a := range p {
			for b := range p {
				what := fmt.Sprint(p, a, b)
				n, err := field.Add(p, a, b)
				wantNumber(t, "Add "+what, n, err, (a+b)%p, api.OK)
				n, err = field.Mul(p, a, b)
				wantNumber(t, "Mul "+what, n, err, (a*b)%p, api.OK)
			}
		}
	}
}

// A2, A4: each number but 0 has its inverse; 0 has none.
func TestInverse(t *testing.T) {
	for _, p := range primes {
		n, err := field.Inverse(p, 0)
		wantNumber(t, "Inverse of 0", n, err, 0, api.ErrNone)
		for a := 1; a < p; a++ {
			n, err := field.Inverse(p, a)
			if err != api.OK || n < 1 || n >= p || n*a%p != 1 {
				t.Errorf("Inverse(%d, %d): %d %d", p, a, n, err)
			}
		}
	}
}

// A4: a product of a sum is the sum of the products.
func TestSumsAndProductsGoTogether(t *testing.T) {
	const p = 13
	add := func(a, b int) int { n, _ := field.Add(p, a, b); return n }
	mul := func(a, b int) int { n, _ := field.Mul(p, a, b); return n }
	for a := range p {
		for b := range p {
			for c := range p {
				if mul(a, add(b, c)) != add(mul(a, b), mul(a, c)) {
					t.Errorf("%d times the sum of %d and %d", a, b, c)
				}
				if add(a, add(b, c)) != add(add(a, b), c) || mul(a, mul(b, c)) != mul(mul(a, b), c) {
					t.Errorf("%d, %d and %d, in another order", a, b, c)
				}
			}
		}
	}
}

// A3: ranks that are plain to see.
func TestRank(t *testing.T) {
	for _, c := range []struct {
		p    int
		rows [][]int
		want int
	}{
		{7, nil, 0},
		{7, [][]int{}, 0},
		{7, [][]int{nil}, 0},
		{7, [][]int{{}, nil}, 0},
		{7, [][]int{{0, 0}, {0, 0}}, 0},
		{7, [][]int{{6}}, 1},
		{7, [][]int{{1, 2}, {2, 4}}, 1},
		{7, [][]int{{1, 2}, {3, 6}}, 1},
		{7, [][]int{{1, 2}, {4, 1}}, 1}, // 4 times the first one, modulo 7
		{5, [][]int{{1, 2}, {4, 1}}, 2},
		{7, [][]int{{0, 0}, {0, 1}, {1, 0}}, 2},
		{7, [][]int{{0, 0, 1}, {0, 0, 1}}, 1},
		{7, [][]int{{0, 0, 3}, {0, 2, 0}, {1, 0, 0}}, 3},
		{2, [][]int{{1, 1, 0}, {0, 1, 1}, {1, 0, 1}}, 2},
		{3, [][]int{{1, 1, 0}, {0, 1, 1}, {1, 0, 1}}, 3},
		{101, [][]int{{1, 2, 3}, {4, 5, 6}, {5, 7, 9}}, 2},
		{101, [][]int{{1, 2, 3, 4, 5}}, 1},
	} {
		n, err := field.Rank(c.p, c.rows)
		wantNumber(t, fmt.Sprint("Rank ", c.p, c.rows), n, err, c.want, api.OK)
	}
}

// spanRank tells the rank by how many different sums the rows make: p to its power.
func spanRank(p int, rows [][]int) int {
	sums := map[string][]int{}
	if len(rows) > 0 {
		zero := make([]int, len(rows[0]))
		sums[fmt.Sprint(zero)] = zero
	}
	for _, row := range rows {
		next := map[string][]int{}
		for _, s := range sums {
			for times := range p {
				v := make([]int, len(row))
				for i := range v {
					v[i] = (s[i] + times*row[i]) % p
				}
				next[fmt.Sprint(v)] = v
			}
		}
		sums = next
	}
	rank := 0
	for n := len(sums); n > 1; n /= p {
		rank++
	}
	return rank
}

// A3: the rank is how many sums there are, as a power of p.
func TestRankCountsSums(t *testing.T) {
	var d draw
	for range 300 {
		p := []int{2, 3, 5}[d.below(3)]
		rows := drawnRows(&d, p, d.below(5), 1+d.below(4))
		n, err := field.Rank(p, rows)
		wantNumber(t, fmt.Sprint("Rank ", p, rows), n, err, spanRank(p, rows), api.OK)
	}
}

// A4: the rank is that of the columns, too, also of what is a product of fewer columns.
func TestRankOfColumns(t *testing.T) {
	var d draw
	for range 300 {
		p := primes[d.below(len(primes))]
		height, inner, width := 1+d.below(12), 1+d.below(6), 1+d.below(12)
		left, right := drawnRows(&d, p, height, inner), drawnRows(&d, p, inner, width)
		rows := make([][]int, height)
		for i := range rows {
			rows[i] = make([]int, width)
			for j := range rows[i] {
				for k := range inner {
					rows[i][j] = (rows[i][j] + left[i][k]*right[k][j]) % p
				}
			}
		}
		n, err := field.Rank(p, rows)
		m, e := field.Rank(p, columns(rows, width))
		if n != m || err != api.OK || e != api.OK || n > inner {
			t.Errorf("Rank(%d, %v): %d %d, of columns %d %d, at most %d", p, rows, n, err, m, e, inner)
		}
	}
}

// A3: as many rows and numbers as there may be, and one more.
func TestRankLimits(t *testing.T) {
	const p, side = 101, 400
	steps := make([][]int, side)
	for i := range steps {
		steps[i] = make([]int, side)
		for j := i; j < side; j++ {
			steps[i][side-1-j] = 1 + (i+j)%(p-1)
		}
	}
	n, err := field.Rank(p, steps)
	wantNumber(t, "Rank of 400 rows", n, err, side, api.OK)
	n, err = field.Rank(p, append(steps, make([]int, side)))
	wantNumber(t, "Rank of 401 rows", n, err, 0, api.ErrMany)
	n, err = field.Rank(p, make([][]int, side+1))
	wantNumber(t, "Rank of 401 empty rows", n, err, 0, api.ErrMany)
	n, err = field.Rank(p, [][]int{make([]int, side+1)})
	wantNumber(t, "Rank of 401 numbers", n, err, 0, api.ErrMany)
	var d draw
	if _, err := field.Rank(p, drawnRows(&d, p, side, side)); err != api.OK {
		t.Errorf("Rank of 400 drawn rows: %d", err)
	}
}

// A1, A3, P1: of several errors the kind that is named first, whichever row it is in.
func TestRankErrors(t *testing.T) {
	long := make([]int, 401)
	many := make([][]int, 401)
	for _, c := range []struct {
		p    int
		rows [][]int
		want api.Errno
	}{
		{1, many, api.ErrRange},
		{102, nil, api.ErrRange},
		{4, many, api.ErrState},
		{4, nil, api.ErrState},
		{4, [][]int{{9}, {1, 2}}, api.ErrState},
		{7, [][]int{{-1}, {1, 2}, long}, api.ErrMany},
		{7, [][]int{nil, long}, api.ErrMany},
		{7, [][]int{{-1}, {1, 2}}, api.ErrForm},
		{7, [][]int{{1, 2}, {1}}, api.ErrForm},
		{7, [][]int{{1, 2}, {1, 9}, {1, 2, 3}}, api.ErrForm},
		{7, [][]int{nil, {1}}, api.ErrForm},
		{7, [][]int{{7}}, api.ErrRange},
		{7, [][]int{{-1}}, api.ErrRange},
		{7, [][]int{{1, 2}, {3, math.MaxInt}}, api.ErrRange},
		{7, [][]int{{math.MinInt, 2}, {3, 4}}, api.ErrRange},
		{2, [][]int{{1, 0}, {1, 2}}, api.ErrRange},
	} {
		n, err := field.Rank(c.p, c.rows)
		wantNumber(t, fmt.Sprint("Rank ", c.p, len(c.rows)), n, err, 0, c.want)
	}
}

// P2, P3: rows are only read, the spare room behind them too; a second call answers as the first one did.
func TestRankReadsOnly(t *testing.T) {
	room := func() [][]int {
		return [][]int{{3, 1, 4, 9, 9}, {1, 5, 2, 9, 9}, {4, 6, 6, 9, 9}, {-5, -5, -5, -5, -5}}
	}
	full := room()
	rows := full[:3]
	for i := range rows {
		rows[i] = rows[i][:3]
	}
	first, err := field.Rank(7, rows)
	wantNumber(t, "Rank", first, err, 2, api.OK)
	if _, err := field.Rank(5, [][]int{{1}, {2}}); err != api.OK {
		t.Errorf("Rank between: %d", err)
	}
	second, err := field.Rank(7, rows)
	wantNumber(t, "Rank again", second, err, first, api.OK)
	for i := range rows {
		if len(rows[i]) != 3 {
			t.Fatalf("row %d has %d numbers now", i, len(rows[i]))
		}
		full[i] = rows[i][:5]
	}
	if !reflect.DeepEqual(full, room()) {
		t.Errorf("rows were changed: %v", full)
	}
}

func Example() {
	sum, _ := field.Add(7, 4, 5)
	inverse, _ := field.Inverse(7, 3)
	_, none := field.Inverse(7, 0)
	rank, _ := field.Rank(7, [][]int{{1, 2}, {2, 4}})
	fmt.Println(sum, inverse, none == api.ErrNone, rank)
	// Output: 2 5 true 1
}
