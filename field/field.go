// Package field: numbers modulo a prime: see doc/01-field.md.
package field

import (
	"slices"

	"syzygist/api"
)

// maxSide is how many rows, and how many numbers a row, Rank takes.
const maxSide = 400

// pivot is a row that was found independent, scaled so that it has a 1 in its column.
type pivot struct {
	column int
	row    []int
}

// Check a prime.
func Check(p int) api.Errno {
	if p < 2 || p > api.MaxPrime {
		return api.ErrRange
	}
	for d := 2; d*d <= p; d++ {
		if p%d == 0 {
			return api.ErrState
		}
	}
	return api.OK
}

// Add two.
func Add(p, a, b int) (int, api.Errno) {
	return modulo(p, a, b, func(x, y int) int { return x + y })
}

// Mul two.
func Mul(p, a, b int) (int, api.Errno) {
	return modulo(p, a, b, func(x, y int) int { return x * y })
}

// Inverse of one.
func Inverse(p, a int) (int, api.Errno) {
	if err := checkNumbers(p, a); err != api.OK {
		return 0, err
	}
	if a == 0 {
		return 0, api.ErrNone
	}
	return inverse(p, a), api.OK
}

// Rank of rows.
func Rank(p int, rows [][]int) (int, api.Errno) {
	if err := checkRows(p, rows); err != api.OK {
		return 0, err
	}
	return len(pivots(p, rows)), api.OK
}

func modulo(p, a, b int, do func(x, y int) int) (int, api.Errno) {
	if err := checkNumbers(p, a, b); err != api.OK {
		return 0, err
	}
	return do(a, b) % p, api.OK
}

func checkNumbers(p int, numbers ...int) api.Errno {
	if err := Check(p); err != api.OK {
		return err
	}
	if anyOutside(p, numbers...) {
		return api.ErrRange
	}
	return api.OK
}

func anyOutside(p int, numbers ...int) bool {
	return slices.ContainsFunc(numbers, func(n int) bool { return n < 0 || n >= p })
}

// checkRows looks through all rows for one kind of error before it looks for the next kind: an earlier kind in a later row counts first.
func checkRows(p int, rows [][]int) api.Errno {
	if err := Check(p); err != api.OK {
		return err
	}
	if len(rows) > maxSide || slices.ContainsFunc(rows, func(row []int) bool { return len(row) > maxSide }) {
		return api.ErrMany
	}
	if slices.ContainsFunc(rows, func(row []int) bool { return len(row) != len(rows[0]) }) {
		return api.ErrForm
	}
	if slices.ContainsFunc(rows, func(row []int) bool { return anyOutside(p, row...) }) {
		return api.ErrRange
	}
	return api.OK
}

// inverse of a number that is not 0: its power of p - 2, because that of p - 1 is 1 (Fermat).
func inverse(p, a int) int {
	power := 1
	for range p - 2 {
		power = power * a % p
	}
	return power
}

// pivots of rows: one for each row that those ahead of it do not make.
func pivots(p int, rows [][]int) []pivot {
	var found []pivot
	for _, row := range rows {
		rest := slices.Clone(row)
		// In the order of their finding: a pivot has 0 in the columns of those found ahead of it, so what was cleared stays so.
		for _, f := range found {
			clearColumn(p, rest, f)
		}
		column := slices.IndexFunc(rest, func(n int) bool { return n != 0 })
		if column < 0 {
			continue
		}
		scale := inverse(p, rest[column])
		for i := range rest {
			rest[i] = rest[i] * scale % p
		}
		found = append(found, pivot{column, rest})
	}
	return found
}

func clearColumn(p int, row []int, f pivot) {
	if row[f.column] == 0 {
		return
	}
	times := p - row[f.column]
	eachPair(row, f.row, func(x, y int) int { return (x + times*y) % p })
}

// eachPair changes each number of a row by what is done with it and the other row's.
func eachPair(row, other []int, do func(x, y int) int) {
	for i := range row {
		row[i] = do(row[i], other[i])
	}
}
