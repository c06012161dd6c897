package bound_test

import (
	"math"
	"slices"
	"testing"

	"leadline/api"
	"leadline/bound"
)

// far: a bound that each right matrix of some rows is above (with the sign), or below.
const far = api.MaxDim*edge + 1

// halfway tells the greatest number for which kept answers true, if it does so from -far up to it, and not behind it up to far.
func halfway(kept func(k int64) bool) int64 {
	low, high := int64(-far), int64(far)
	for high-low > 1 {
		k := (low + high) / 2
		if kept(k) {
			low = k
		} else {
			high = k
		}
	}
	return low
}

// greatestLeast tells the greatest bound that Least keeps.
func greatestLeast(m api.Sym) int64 {
	return halfway(func(k int64) bool { return bound.Least(m, k) })
}

// leastMost tells the least bound that Most keeps.
func leastMost(m api.Sym) int64 {
	return -halfway(func(k int64) bool { return bound.Most(m, -k) })
}

// just holds Least and Most against the last bounds that they keep, the next ones that they don't, and what is far beyond.
func just(t *testing.T, m api.Sym, least, most int64) {
	t.Helper()
	for _, by := range []int64{0, 1, 2, 1 << 20, 1 << 40} {
		leastIs(t, m, least-by, true)
		leastIs(t, m, least+1+by, false)
		mostIs(t, m, most+by, true)
		mostIs(t, m, most-1-by, false)
	}
	leastIs(t, m, math.MinInt64, true)
	leastIs(t, m, math.MinInt64+1, true)
	leastIs(t, m, math.MaxInt64, false)
	mostIs(t, m, math.MaxInt64, true)
	mostIs(t, m, math.MaxInt64-1, true)
	mostIs(t, m, math.MinInt64, false)
}

// TestExample holds the chapter's own.
func TestExample(t *testing.T) {
	leastIs(t, matrix(1, 5), 4, true)
	leastIs(t, matrix(1, 5), 5, false)
}

func TestNoRows(t *testing.T) {
	for _, m := range []api.Sym{{}, {A: []int64{}}, {A: make([]int64, 0, 9)}} {
		for _, k := range bounds() {
			leastIs(t, m, k, true)
			mostIs(t, m, k, true)
		}
	}
}

func TestOneRow(t *testing.T) {
	for _, v := range []int64{0, 1, -1, 2, -2, 5, -5, 1000, edge - 1, 1 - edge, edge, -edge} {
		m := matrix(1, v)
		for _, k := range append(bounds(), v-2, v-1, v, v+1, v+2) {
			leastIs(t, m, k, v > k)
			mostIs(t, m, k, v < k)
		}
	}
}

// TestEachRow: one number on the diagonal, wherever it is, breaks the bound.
func TestEachRow(t *testing.T) {
	for n := 1; n <= api.MaxDim; n++ {
		for at := range n {
			for _, v := range []int64{0, 7, -7, edge - 3, 3 - edge} {
				l := slices.Repeat([]int64{v}, n)
				l[at] -= 3
				below := diagonal(l...)
				l[at] += 6
				above := diagonal(l...)
				if n == 1 {
					just(t, below, v-4, v-2)
					just(t, above, v+2, v+4)
					continue
				}
				just(t, below, v-4, v+1)
				just(t, above, v-1, v+4)
			}
		}
	}
}

// hadamard tells eight rows of edge's amount at right angles to one another: times itself it is 8 edge edge on the diagonal, so that it is as great as the root of that, in half of all directions with the other sign.
func hadamard() api.Sym {
	return laid(api.MaxDim, func(i, j int) int64 {
		both := i & j
		if (both>>2^both>>1^both)&1 != 0 {
			return -edge
		}
		return edge
	})
}

// TestMaxEntries: the greatest entries, whose bounds are known.
func TestMaxEntries(t *testing.T) {
	for n := 1; n <= api.MaxDim; n++ {
		rows := int64(n)
		just(t, same(n, edge), edge-1, edge+1)
		just(t, same(n, -edge), -edge-1, -edge+1)
		if n == 1 {
			continue
		}
		just(t, filled(n, edge), -1, rows*edge+1) // each row the same: rows times edge in one direction, 0 in all others
		just(t, filled(n, -edge), -rows*edge-1, 1)
		nearly := laid(n, func(i, j int) int64 { // 1 in all directions but one, in which it is rows (edge - 1) more
			if i == j {
				return edge
			}
			return edge - 1
		})
		just(t, nearly, 0, rows*edge-rows+2)
		beside := laid(n, func(i, j int) int64 { // -edge in all directions but one
			if i == j {
				return 0
			}
			return edge
		})
		just(t, beside, -edge-1, rows*edge-edge+1)
	}
	just(t, hadamard(), -3037000500, 3037000500) // 2 to the 31 and a half: 3037000499.97
}

// TestNotWhole: the last bounds that are kept, where those that would be kept just aren't whole numbers.
func TestNotWhole(t *testing.T) {
	just(t, matrix(2, 1, 1, 2), 0, 3)                   // 0.38, 2.62
	just(t, matrix(2, 0, 3, 1), -3, 4)                  // -2.54, 3.54
	just(t, matrix(2, edge, 1, edge-1), edge-2, edge+1) // 1.62, -0.62 off edge
	for n := 2; n <= api.MaxDim; n++ {
		chain := laid(n, func(i, j int) int64 { // between 0 and 4, for any number of rows
			switch j - i {
			case 0:
				return 2
			case 1:
				return -1
			}
			return 0
		})
		just(t, chain, 0, 4)
	}
}

// TestDefiniteByOne: matrices all of whose minors are 1, beside a bound; by one less the last one is 0.
func TestDefiniteByOne(t *testing.T) {
	d := thrown(1)
	for n := 1; n <= api.MaxDim; n++ {
		for _, most := range []int64{0, 1, 7, 300, 8000} {
			for _, k := range []int64{0, 1, -1, 1000, -1000, edge / 2, -edge / 2, 0, 0, 0} {
				m := d.byOne(n, most) // of at most 8 times most times itself: half of edge
				over, under := plus(same(n, k), 1, m), plus(same(n, k), -1, m)
				leastIs(t, over, k, true)
				leastIs(t, last(over, -1), k, false)
				leastIs(t, last(over, -2), k, false)
				mostIs(t, under, k, true)
				mostIs(t, last(under, 1), k, false)
				mostIs(t, last(under, 2), k, false)
				check(t, over, k+1)
				check(t, under, k-1)
			}
		}
	}
}

// TestGreatAndDefiniteByOne: entries so great that floating numbers wouldn't tell products from one another.
func TestGreatAndDefiniteByOne(t *testing.T) {
	const f41, f42, f43, f44 = 165580141, 267914296, 433494437, 701408733 // Fibonacci's: neighbours' products are 1 off a square
	leastIs(t, matrix(2, f41, f42, f43), 0, true)
	leastIs(t, matrix(2, f42, f43, f44), 0, false)
	mostIs(t, matrix(2, -f41, -f42, -f43), 0, true)
	mostIs(t, matrix(2, -f42, -f43, -f44), 0, false)
	for _, k := range []int64{-1, 1, 5 - edge, edge - 5} { // with k on the diagonal, entries are above edge: so is what Least and Most have to reckon with
		leastIs(t, matrix(2, edge, edge-1, edge-2), k, k < 0)
		mostIs(t, matrix(2, -edge, 1-edge, 2-edge), -k, k < 0)
	}
}

// TestMinorsAlone: what is definite isn't told by its diagonal, its determinant, its first rows or its last.
func TestMinorsAlone(t *testing.T) {
	leastIs(t, matrix(2, -2, 1, -2), 0, false) // a determinant of 3
	leastIs(t, matrix(2, 2, 3, 2), 0, false)   // twos on the diagonal
	leastIs(t, matrix(2, 0, 0, 5), 0, false)
	leastIs(t, matrix(2, 5, 0, 0), 0, false)
	leastIs(t, matrix(3, 1, 0, 0, 1, 2, 1), 0, false)
	leastIs(t, matrix(3, 1, 2, 0, 1, 0, 1), 0, false)
	leastIs(t, matrix(4, -1, 0, 0, 0, -1, 0, 0, -1, 0, -1), 0, false) // a determinant of 1
	leastIs(t, matrix(4, 1, 0, 0, 0, -1, 0, 0, -1, 0, 1), 0, false)
	mostIs(t, matrix(4, 1, 0, 0, 0, 1, 0, 0, 1, 0, 1), 0, false)
	mostIs(t, matrix(4, -1, 0, 0, 0, -1, 0, 0, -1, 0, -1), 0, true)
}

// TestEachMinor: one minor below 0 is enough, whichever it is: two neighbours on the diagonal are -1, so that all minors but the one between them are 1.
func TestEachMinor(t *testing.T) {
	for n := 2; n <= api.MaxDim; n++ {
		for at := range n - 1 {
			l := slices.Repeat([]int64{1}, n)
			l[at], l[at+1] = -1, -1
			m := diagonal(l...)
			leastIs(t, m, -2, true)
			leastIs(t, m, 0, false)
			mostIs(t, m, 2, true)
			mostIs(t, plus(same(n, 0), -1, m), 0, false)
			belowIs(t, same(n, 1), m, false)
		}
	}
}

// TestAllBounds holds matrices by chance at bounds of all lengths.
func TestAllBounds(t *testing.T) {
	d := thrown(2)
	for n := 1; n <= api.MaxDim; n++ {
		for _, most := range []int64{1, 1000, edge} {
			m := d.matrix(n, most)
			for _, k := range bounds() {
				check(t, m, k)
			}
		}
	}
}

// TestByChance holds matrices by chance at the bounds that they keep just, and by one don't.
func TestByChance(t *testing.T) {
	d := thrown(3)
	for n := 1; n <= api.MaxDim; n++ {
		for range 12 {
			for _, most := range []int64{1, 2, 9, 1000, 1 << 20, edge} {
				m := d.matrix(n, most)
				low, high := greatestLeast(m), leastMost(m)
				just(t, m, low, high)
				for _, k := range []int64{low, low + 1, high - 1, high, 0, -most, most} {
					check(t, m, k)
				}
				just(t, plus(same(n, 0), -1, m), -high, -low) // the other sign, the other bound
			}
		}
	}
}

// TestEveryOne holds all matrices of few rows with entries of -1, 0 and 1.
func TestEveryOne(t *testing.T) {
	for n := range 4 {
		all := 1
		for range len(same(n, 0).A) {
			all *= 3
		}
		for which := range all {
			m := laid(n, func(i, j int) int64 { v := which % 3; which /= 3; return int64(v - 1) })
			for k := int64(-4); k <= 4; k++ {
				check(t, m, k)
			}
		}
	}
}

// TestNotRight: of a matrix that isn't right, no bound is kept.
func TestNotRight(t *testing.T) {
	for _, m := range wrongs() {
		for _, k := range bounds() {
			leastIs(t, m, k, false)
			mostIs(t, m, k, false)
		}
	}
}

// TestTooGreat: an entry of just MaxEntry's amount is right, one more isn't, at each place.
func TestTooGreat(t *testing.T) {
	for n := 1; n <= api.MaxDim; n++ {
		for at := range same(n, 0).A {
			for _, v := range []int64{edge, -edge} {
				m := same(n, 3)
				m.A[at] = v
				check(t, m, 0)
				leastIs(t, m, -far, true)
				mostIs(t, m, far, true)
				m.A[at] += v / edge
				leastIs(t, m, -far, false)
				mostIs(t, m, far, false)
			}
		}
	}
}
