package sound_test

import (
	"math"
	"testing"
)

// most is the greatest range.
const most = 2097152

// TestFlatKnown: the chapter's example; ranges of nought, of MaxRange; differences of nought and of just the range.
func TestFlatKnown(t *testing.T) {
	for _, x := range []struct{ r, dz, want int64 }{
		{5, 3, 4}, // the chapter's
		{5, -3, 4},
		{5, 4, 3},
		{5, -4, 3},
		{5, 0, 5},
		{5, 5, 0},
		{5, -5, 0},
		{5, 1, 4}, // 24
		{5, 2, 4}, // 21
		{0, 0, 0},
		{1, 0, 1},
		{1, 1, 0},
		{1, -1, 0},
		{2, 1, 1}, // 3
		{2, -1, 1},
		{3, 1, 2}, // 8
		{3, 2, 2}, // 5
		{13, 12, 5},
		{13, -5, 12},
		{65, 33, 56},
		{1000000, 600000, 800000},
		{1000000, 999999, 1414},
		{1000000, -999999, 1414},
		{1000000, 1, 999999},
		{most, 0, most},
		{most, 1, most - 1},
		{most, -1, most - 1},
		{most, most, 0},
		{most, -most, 0},
		{most, most - 1, 2047}, // 4194303, one below 2048 squared
		{most, 1 - most, 2047},
		{most - 1, most - 1, 0},
		{most - 1, most - 2, 2047},
		{most, 2047, most - 1}, // above the square of MaxRange less 1, by 4094
		{most, 2048, most - 2}, // one below that square
		{most, 2049, most - 2},
		{most, 1482910, 1482910}, // nearly as deep as far
	} {
		if onMap(x.r, x.dz) != x.want {
			t.Errorf("P13.2: the chapter's of %v is %d", x, onMap(x.r, x.dz))
		}
		flatIs(t, x.r, x.dz, x.want)
	}
}

// TestFlatSmall: all small ranges and differences, by what the chapter asks of the square.
func TestFlatSmall(t *testing.T) {
	for r := int64(0); r <= 300; r++ {
		for dz := -r; dz <= r; dz++ {
			n := int64(0)
			for (n+1)*(n+1) <= r*r-dz*dz {
				n++
			}
			flatIs(t, r, dz, n)
		}
	}
}

// TestFlatJust: flat ways whose square is just hit, one above it, one below it, up to great ones.
func TestFlatJust(t *testing.T) {
	for dz := int64(1); dz <= 2048; dz++ {
		for _, sign := range []int64{1, -1} {
			if dz%2 == 1 {
				n := (dz*dz - 1) / 2 // (n + 1) squared less dz squared is n squared
				flatIs(t, n+1, sign*dz, n)
				continue
			}
			n := (dz*dz - 2) / 2 // it is one below n squared
			flatIs(t, n+1, sign*dz, n-1)
			n = dz * dz / 2 // it is one above n squared
			if n < most {
				flatIs(t, n+1, sign*dz, n)
			}
		}
	}
}

// TestFlatDeep: nearly as deep as far: what is left is little, and is a square, one above it, one below it.
func TestFlatDeep(t *testing.T) {
	for n := int64(1); n <= 2046; n++ {
		if n%2 == 1 {
			r := (n*n + 1) / 2 // r squared less (r - 1) squared is 2 r - 1
			flatIs(t, r, r-1, n)
			flatIs(t, r, 1-r, n)
			continue
		}
		flatIs(t, n*n/2+1, n*n/2, n)
		flatIs(t, n*n/2, 1-n*n/2, n-1)
	}
}

// TestFlatEnds: ranges at their ends and beside them with differences at theirs, and by chance.
func TestFlatEnds(t *testing.T) {
	for _, r := range rangeSpan().within() {
		for _, dz := range []int64{0, 1, 2, r / 3, r / 2, r - 2, r - 1, r} {
			if dz >= 0 && dz <= r {
				flatIs(t, r, dz, onMap(r, dz))
				flatIs(t, r, -dz, onMap(r, dz))
			}
		}
	}
	d := thrown(3)
	for range 50000 {
		r := rangeSpan().some(d)
		dz := span{-r, r}.some(d)
		flatIs(t, r, dz, onMap(r, dz))
	}
}

// TestFlatUnits: ranges that may not be, differences that are greater than the range, either way round, and both.
func TestFlatUnits(t *testing.T) {
	for _, r := range rangeSpan().outside() {
		for _, dz := range []int64{0, 1, -1, 3, r, -r, r - 1, most, math.MinInt64, math.MaxInt64} {
			flatFails(t, r, dz)
		}
	}
	for _, r := range rangeSpan().within() {
		for _, dz := range []int64{r + 1, r + 2, 2*r + 1, r + 1<<31, r + 1<<32, r + 1<<62, math.MaxInt64 - r, math.MaxInt64 - 1, math.MaxInt64} {
			flatFails(t, r, dz)
			flatFails(t, r, -dz)
		}
		flatFails(t, r, math.MinInt64)
		flatFails(t, r, math.MinInt64+1)
		flatFails(t, r, math.MinInt64+r)
	}
	flatFails(t, 0, 1)
	flatFails(t, 0, -1)
	flatFails(t, 0, math.MinInt64)
	flatFails(t, most+1, 0)
	flatFails(t, most+1, most+1)
	flatFails(t, -1, 0)
	flatFails(t, -1, -1)
	flatFails(t, -5, 3)
	flatFails(t, math.MinInt64, math.MinInt64)
	flatFails(t, math.MaxInt64, math.MaxInt64)
}
