package solve_test

import (
	"fmt"
	"math"
	"slices"
	"testing"

	"leadline/api"
	"leadline/solve"
)

// wrongs tells matrices that aren't right.
func wrongs() []api.Sym {
	l := []api.Sym{
		matrix(0, 0), matrix(0, 1), matrix(1), matrix(1, 1, 1), matrix(2, 1, 0), matrix(2, 1), matrix(2), matrix(2, 1, 0, 1, 0),
		matrix(8, make([]int64, 35)...), matrix(8, make([]int64, 37)...), matrix(8, make([]int64, 64)...),
		diagonal(9, 1, 0), matrix(9), matrix(9, make([]int64, 36)...), // one row more than MaxDim
		matrix(-1), matrix(-1, 1), matrix(-2, 5), matrix(-9, make([]int64, 36)...), // N (N + 1) / 2 entries, as if there were such rows
		matrix(math.MaxInt64), matrix(math.MinInt64), matrix(1<<32 - 1), matrix(-1 << 32), matrix(1 << 62), matrix(math.MaxInt32),
	}
	for _, v := range []int64{edge + 1, -edge - 1, 1 << 32, math.MaxInt64, math.MinInt64} {
		l = append(l, matrix(1, v), matrix(2, v, 0, edge), matrix(2, edge, v, edge), matrix(2, edge, 0, v), more(diagonal(8, 1, 0), v-1))
	}
	return l
}

// lengths tells lists of that number in all lengths that a matrix may have rows, and some others.
func lengths(v int64) [][]int64 {
	l := [][]int64{nil}
	for n := range 2*api.MaxDim + 1 {
		l = append(l, slices.Repeat([]int64{v}, n))
	}
	return l
}

// tooGreat tells numbers whose amount is above MaxVector.
func tooGreat() []int64 {
	return []int64{top + 1, -top - 1, 1 << 60, math.MaxInt64, math.MinInt64, math.MinInt64 + 1}
}

// TestNotRight: of a matrix that isn't right, each call tells ErrSize, whatever else is wrong.
func TestNotRight(t *testing.T) {
	for _, m := range wrongs() {
		for _, v := range []int64{1, 0, top + 1, math.MinInt64} {
			for _, l := range lengths(v) {
				listFails(t, m, l, api.ErrSize)
				residualFails(t, m, l, l, api.ErrSize)
			}
		}
		for _, i := range []int{0, 1, -1, 7, 8, 9, math.MaxInt64, math.MinInt64} {
			columnFails(t, m, i, api.ErrSize)
		}
	}
}

// TestOtherSizes: lists of other sizes, of definite matrices and of others, with numbers that are too great too.
func TestOtherSizes(t *testing.T) {
	for n := range api.MaxDim + 1 {
		for _, m := range []api.Sym{diagonal(n, 5, 1), diagonal(n, 0, 0), diagonal(n, -1, 0)} {
			right := make([]int64, n)
			for _, v := range []int64{1, top + 1, math.MinInt64} {
				great := slices.Repeat([]int64{v}, n)
				for _, l := range lengths(v) {
					if len(l) == n {
						continue
					}
					listFails(t, m, l, api.ErrSize)
					for _, other := range [][]int64{right, great, l} {
						residualFails(t, m, l, other, api.ErrSize)
						residualFails(t, m, other, l, api.ErrSize)
					}
				}
			}
		}
	}
}

// TestNumberTooGreat: just MaxVector's amount is taken, one more isn't, at each place; it is told ahead of a matrix that is loose.
func TestNumberTooGreat(t *testing.T) {
	for n := 1; n <= api.MaxDim; n++ {
		for at := range n {
			for _, v := range []int64{top, -top} {
				l := make([]int64, n)
				l[at] = v
				check(t, diagonal(n, 3, 1), l)
				residualIs(t, diagonal(n, 0, 0), l, l, top)
				listFails(t, diagonal(n, 0, 0), l, api.ErrLoose)
			}
			for _, v := range tooGreat() {
				l := make([]int64, n)
				l[at] = v
				for _, m := range []api.Sym{diagonal(n, 3, 1), diagonal(n, edge, 0), diagonal(n, 0, 0), diagonal(n, -3, 0)} {
					listFails(t, m, l, api.ErrOver)
					residualFails(t, m, l, make([]int64, n), api.ErrOver)
					residualFails(t, m, make([]int64, n), l, api.ErrOver)
					residualFails(t, m, l, l, api.ErrOver)
				}
			}
		}
	}
}

// TestNoSuchRow: ErrRange, of a matrix that is loose too.
func TestNoSuchRow(t *testing.T) {
	for n := range api.MaxDim + 1 {
		for _, m := range []api.Sym{diagonal(n, 3, 1), diagonal(n, 0, 0), diagonal(n, -3, 0)} {
			for _, i := range []int{-1, n, n + 1, api.MaxDim, api.MaxDim + 1, -n - 1, 1 << 32, -1 << 32, math.MaxInt64, math.MinInt64} {
				columnFails(t, m, i, api.ErrRange)
			}
		}
		for i := range n {
			columnFails(t, diagonal(n, 0, 0), i, api.ErrLoose)
			columnFails(t, diagonal(n, -3, 0), i, api.ErrLoose)
		}
	}
}

// TestLoose: a minor that isn't above 0, at each row, whatever comes behind; nothing is asked of it but Residual.
func TestLoose(t *testing.T) {
	for n := 1; n <= api.MaxDim; n++ {
		for at := range n {
			for _, v := range []int64{0, -1, -2, -edge} {
				for _, behind := range []int64{1, -1, 0} {
					m := laid(n, func(i, j int) int64 {
						if i != j {
							return 0
						}
						if i == at {
							return v
						}
						if i > at {
							return behind
						}
						return 1
					})
					l := slices.Repeat([]int64{4}, n)
					listFails(t, m, l, api.ErrLoose)
					columnFails(t, m, at, api.ErrLoose)
					if got, err := solve.Residual(m, make([]int64, n), l); err != nil || got != 4 {
						t.Errorf("P7.2: Residual of a loose %v: %d, %v", m, got, err)
					}
				}
			}
		}
	}
	listFails(t, matrix(2, 1, 2, 1), []int64{3, 3}, api.ErrLoose)   // it has just one solution, of whole numbers
	listFails(t, matrix(2, 0, 1, 0), []int64{3, 3}, api.ErrLoose)   // so has this one
	listFails(t, matrix(2, -2, 0, -2), []int64{2, 2}, api.ErrLoose) // and one with a determinant above 0
	listFails(t, matrix(2, 0, 0, 0), []int64{0, 0}, api.ErrLoose)
	listFails(t, matrix(2, edge, edge, edge), []int64{1, 1}, api.ErrLoose)
	check(t, matrix(2, edge, edge-1, edge-1), []int64{1, 1})
	listFails(t, matrix(2, edge, edge-1, edge-2), []int64{1, 1}, api.ErrLoose)
}

// TestOrder: of all that is wrong, what the chapter names first is told.
func TestOrder(t *testing.T) {
	loose, sure := diagonal(2, 0, 0), matrix(2, 2, 1, 1)
	for i, x := range []struct {
		m    api.Sym
		v    []int64
		want api.Errno
	}{
		{matrix(2, edge+1, 0, 0), []int64{top + 1}, api.ErrSize},
		{loose, []int64{top + 1}, api.ErrSize},
		{loose, []int64{0, 0, top + 1}, api.ErrSize},
		{loose, []int64{top + 1, 0}, api.ErrOver},
		{loose, []int64{0, -top - 1}, api.ErrOver},
		{loose, []int64{top, -top}, api.ErrLoose},
		{sure, []int64{top + 1, 0}, api.ErrOver},
	} {
		t.Run(fmt.Sprint(i), func(t *testing.T) { listFails(t, x.m, x.v, x.want) })
	}
	columnFails(t, matrix(2, 1, 0), 5, api.ErrSize)
	columnFails(t, loose, 2, api.ErrRange)
	columnFails(t, loose, 1, api.ErrLoose)
	residualFails(t, loose, []int64{1}, []int64{0, math.MaxInt64}, api.ErrSize)
	residualFails(t, loose, []int64{math.MaxInt64, 0}, []int64{1, 2, 3}, api.ErrSize)
}
