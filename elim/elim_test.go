package elim_test

import (
	"math"
	"slices"
	"testing"

	"leadline/api"
	"leadline/elim"
	"leadline/wide"
)

func TestNoRows(t *testing.T) {
	for _, m := range []api.Sym{{}, {A: []int64{}}, {A: make([]int64, 0, 9)}} {
		minorsAre(t, m)
		detIs(t, m, 1)
		definiteIs(t, m, true)
	}
}

func TestOneRow(t *testing.T) {
	for _, v := range []int64{1, 2, 5, edge, edge - 1, 0, -1, -2, -edge} {
		m := matrix(1, v)
		minorsAre(t, m, v)
		detIs(t, m, v)
		definiteIs(t, m, v > 0)
	}
}

func TestWrittenDown(t *testing.T) {
	for _, x := range []struct {
		m        api.Sym
		minors   []int64
		det      int64
		definite bool
	}{
		{matrix(2, 2, 1, 2), []int64{2, 3}, 3, true},
		{matrix(2, 2, 2, 2), []int64{2, 0}, 0, false},
		{matrix(2, 2, 3, 2), []int64{2, -5}, -5, false},
		{matrix(2, 0, 1, 0), []int64{0}, -1, false},
		{matrix(2, 0, 0, 5), []int64{0}, 0, false},
		{matrix(2, -2, 1, -2), []int64{-2}, 3, false},
		{matrix(3, 4, -2, 1, 3, 0, 2), []int64{4, 8, 13}, 13, true},
		{matrix(3, 1, 2, 3, 4, 5, 6), []int64{1, 0}, -1, false},
		{matrix(3, 1, 2, 3, 5, 8, 13), []int64{1, 1, 0}, 0, false},
		{matrix(3, 1, 2, 3, 3, 4, 5), []int64{1, -1}, 0, false},
		{matrix(3, 0, 1, 2, 0, 3, 0), []int64{0}, 12, false},
		{matrix(3, 0, 0, 7, 0, 5, 3), []int64{0}, 0, false},
		{matrix(3, 0, 0, 7, 2, 0, 0), []int64{0}, -98, false},
		{matrix(4, 2, -1, 0, 0, 2, -1, 0, 2, -1, 2), []int64{2, 3, 4, 5}, 5, true},
	} {
		minorsAre(t, x.m, x.minors...)
		detIs(t, x.m, x.det)
		definiteIs(t, x.m, x.definite)
	}
}

// TestEndsAtTheFirst: minors end at the first that isn't above 0, at each row, with it, whatever comes behind.
func TestEndsAtTheFirst(t *testing.T) {
	for n := 1; n <= api.MaxDim; n++ {
		for at := range n {
			for _, v := range []int64{0, -1, -3, -9} {
				for _, behind := range []int64{1, 5, 0, -2} {
					l, want, product := make([]int64, n), []int64(nil), int64(1)
					for i := range l {
						l[i] = int64(i + 2)
						if i == at {
							l[i] = v
						} else if i > at {
							l[i] = behind
						}
						product *= l[i]
						if i <= at {
							want = append(want, product)
						}
					}
					m := diagonal(l...)
					minorsAre(t, m, want...)
					detIs(t, m, product)
					definiteIs(t, m, false)
				}
			}
		}
	}
}

// hadamard tells eight rows of edge's amount that are at right angles to one another: no entries have a greater determinant.
func hadamard() api.Sym {
	return laid(api.MaxDim, func(i, j int) int64 {
		both := i & j
		if (both>>2^both>>1^both)&1 != 0 {
			return -edge
		}
		return edge
	})
}

func TestMaxEntries(t *testing.T) {
	for n := 1; n <= api.MaxDim; n++ {
		check(t, filled(n, func() int64 { return edge }))
		check(t, filled(n, func() int64 { return -edge }))
		check(t, diagonal(slices.Repeat([]int64{-edge}, n)...))
		sure := diagonal(slices.Repeat([]int64{edge}, n)...)
		if count, ok := check(t, sure); count != n || !ok {
			t.Errorf("P6.1: %v: %d minors, %v", sure, count, ok)
		}
		sure = laid(n, func(i, j int) int64 { // less than edge by one beside the diagonal: definite, yet only just
			if i == j {
				return edge
			}
			return edge - 1
		})
		if count, ok := check(t, sure); count != n || !ok {
			t.Errorf("P6.1: %v: %d minors, %v", sure, count, ok)
		}
	}
	det, err := elim.Det(hadamard())
	power := wide.Of(1) // 2 to the 252: 8 to the 4 of eight rows of 1, and 2 to the 30 a row
	for range 252 {
		power, _ = wide.Add(power, power)
	}
	if err != nil || det != power {
		t.Errorf("P6.1: Det of the greatest: %v, %v", value(det), err)
	}
	check(t, hadamard())
	c := &chance{61}
	for range 300 {
		check(t, filled(api.MaxDim, func() int64 { return []int64{edge, -edge}[c.next()%2] }))
		check(t, filled(api.MaxDim, func() int64 { return []int64{edge, -edge, 0, edge - 1}[c.next()%4] }))
	}
}

// TestByChance holds entries of all lengths, in all sizes.
func TestByChance(t *testing.T) {
	c := &chance{62}
	counts := map[int]int{}
	for n := range api.MaxDim + 1 {
		for range 60 {
			for _, most := range []int64{1, 2, 9, 1000, 1 << 20, edge} {
				m := filled(n, func() int64 { return c.upTo(most) })
				count, _ := check(t, m)
				counts[count]++
				m = laid(n, func(i, j int) int64 { // a heavier diagonal: more minors are above 0
					if i == j {
						return most
					}
					return c.upTo((most + 1) / 3)
				})
				count, _ = check(t, m)
				counts[count]++
			}
		}
	}
	for count := range api.MaxDim + 1 {
		if counts[count] == 0 {
			t.Errorf("P6.1: never %d minors", count)
		}
	}
}

// TestEveryOne holds all matrices of few rows with entries of -1, 0 and 1.
func TestEveryOne(t *testing.T) {
	for n := range 5 {
		all := 1
		for range triangle(n) {
			all *= 3
		}
		for i := range all {
			rest := i
			check(t, filled(n, func() int64 { v := rest % 3; rest /= 3; return int64(v - 1) }))
		}
	}
}

// TestNoughtOnTheWay: determinants, when a leading entry is nought at the beginning or further on, even in each row.
func TestNoughtOnTheWay(t *testing.T) {
	detIs(t, matrix(4, 0, 0, 0, 1, 0, 1, 0, 0, 0, 0), 1)
	detIs(t, matrix(4, 1, 1, 1, 1, 1, 2, 1, 1, 1, 3), -2) // nought behind the first row
	detIs(t, matrix(3, 1, 1, 1, 1, 2, 3), -1)
	detIs(t, matrix(3, 1, 1, 1, 1, 1, 3), 0) // a column of noughts behind the first row
	detIs(t, matrix(4, 0, 0, 0, 0, 1, 2, 3, 4, 5, 6), 0)
	for n := 1; n <= api.MaxDim; n++ {
		for _, v := range []int64{1, -2, edge, -edge} {
			check(t, laid(n, func(i, j int) int64 { // across the diagonal
				if i+j == n-1 {
					return v
				}
				return 0
			}))
			check(t, laid(n, func(i, j int) int64 { // nought on the diagonal alone
				if i == j {
					return 0
				}
				return v
			}))
			check(t, laid(n, func(i, j int) int64 { // pairs of rows, each with nought in front
				if i/2 == j/2 && i != j {
					return v
				}
				return 0
			}))
		}
	}
	c := &chance{63}
	for n := 1; n <= api.MaxDim; n++ {
		for range 400 {
			check(t, filled(n, func() int64 { return []int64{1, -1, 0, 0, 0}[c.next()%5] }))
			check(t, filled(n, func() int64 { return []int64{edge, -edge, 0, 0, 1 - edge}[c.next()%5] }))
			check(t, laid(n, func(i, j int) int64 { // the last rows the same: no determinant
				return int64(min(i, n-2)+1) * int64(min(j, n-2)+1) * 3
			}))
		}
	}
}

func TestNotRight(t *testing.T) {
	l := []api.Sym{
		matrix(0, 0), matrix(0, 1), matrix(1), matrix(1, 1, 1), matrix(2, 1, 0), matrix(2, 1), matrix(2), matrix(2, 1, 0, 1, 0),
		matrix(8, make([]int64, 35)...), matrix(8, make([]int64, 37)...), matrix(8, make([]int64, 64)...),
		diagonal(1, 1, 1, 1, 1, 1, 1, 1, 1), matrix(9), matrix(9, make([]int64, 36)...), // one row more than MaxDim
		matrix(-1), matrix(-1, 1), matrix(-2, 5), matrix(-9, make([]int64, 36)...), // N (N + 1) / 2 entries, as if there were such rows
		matrix(math.MaxInt64), matrix(math.MinInt64), matrix(1<<32 - 1), matrix(-1 << 32), matrix(1 << 62), matrix(math.MaxInt32),
	}
	for _, m := range l {
		refused(t, m)
	}
}

// TestTooGreat: an entry that is too great, at each place of each size, whatever the minors ahead of it are.
func TestTooGreat(t *testing.T) {
	for n := 1; n <= api.MaxDim; n++ {
		for at := range triangle(n) {
			for _, v := range []int64{edge + 1, -edge - 1, 1 << 32, 1 << 62, math.MaxInt64, math.MinInt64, math.MinInt64 + 1} {
				for _, one := range []int64{1, 0, -1} {
					m := diagonal(slices.Repeat([]int64{one}, n)...)
					m.A[at] = v
					refused(t, m)
				}
			}
		}
	}
}
