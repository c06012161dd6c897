package bound_test

import (
	"math"
	"testing"

	"leadline/api"
)

func TestBetween(t *testing.T) {
	for _, x := range []struct {
		m           api.Sym
		least, most int64
		want        api.Errno
	}{
		{matrix(1, 5), 4, 6, api.OK},
		{matrix(1, 5), 5, 6, api.ErrLoose},
		{matrix(1, 5), 4, 5, api.ErrTight},
		{matrix(1, 5), 5, 5, api.ErrLoose},
		{matrix(1, 5), 6, 4, api.ErrLoose},
		{matrix(1, 0), -1, 1, api.OK},
		{matrix(1, 0), 0, 1, api.ErrLoose},
		{matrix(1, 0), -1, 0, api.ErrTight},
		{matrix(1, -5), -6, -4, api.OK},
		{matrix(1, -5), -5, 0, api.ErrLoose},
		{matrix(1, -5), -6, -5, api.ErrTight},
		{matrix(2, 2, 1, 2), 0, 4, api.OK}, // 1 and 3
		{matrix(2, 2, 1, 2), 1, 4, api.ErrLoose},
		{matrix(2, 2, 1, 2), 0, 3, api.ErrTight},
		{matrix(2, 2, 1, 2), 1, 3, api.ErrLoose},
		{matrix(2, 2, 2, 2), -1, 5, api.OK}, // 0 and 4
		{matrix(2, 2, 2, 2), 0, 5, api.ErrLoose},
		{matrix(2, 2, 2, 2), -1, 4, api.ErrTight},
		{diagonal(9, 9, 9, 9, 9, 9, 9, 6), 5, 10, api.OK},
		{diagonal(9, 9, 9, 9, 9, 9, 9, 6), 6, 10, api.ErrLoose},
		{diagonal(9, 9, 9, 9, 9, 9, 9, 6), 5, 9, api.ErrTight},
		{filled(8, edge), -1, 8*edge + 1, api.OK},
		{filled(8, edge), 0, 8*edge + 1, api.ErrLoose},
		{filled(8, edge), -1, 8 * edge, api.ErrTight},
		{filled(8, -edge), -8*edge - 1, 1, api.OK},
		{filled(8, -edge), -8 * edge, 1, api.ErrLoose},
		{filled(8, -edge), -8*edge - 1, 0, api.ErrTight},
		{same(8, 5), math.MinInt64, math.MaxInt64, api.OK},
		{same(8, 5), math.MaxInt64, math.MaxInt64, api.ErrLoose},
		{same(8, 5), math.MinInt64, math.MinInt64, api.ErrTight},
		{same(8, 5), math.MaxInt64, math.MinInt64, api.ErrLoose},
	} {
		between(t, x.m, x.least, x.most, x.want)
	}
}

// TestBetweenIsBoth holds Between against what both bounds promise, just where they are kept and by one not.
func TestBetweenIsBoth(t *testing.T) {
	d := thrown(4)
	for n := 1; n <= api.MaxDim; n++ {
		for _, greatest := range []int64{1, 9, 1 << 20, edge} {
			m := d.matrix(n, greatest)
			low, high := greatestLeast(m), leastMost(m)
			for _, least := range []int64{math.MinInt64, low - 1, low, low + 1, high, math.MaxInt64} {
				for _, most := range []int64{math.MaxInt64, high + 1, high, high - 1, low, math.MinInt64} {
					want := api.OK
					if !leastSure(m, least) {
						want = api.ErrLoose
					} else if !mostSure(m, most) {
						want = api.ErrTight
					}
					between(t, m, least, most, want)
				}
			}
		}
	}
}

// TestBetweenOfNoRows: all bounds are kept, also where the least is above the most.
func TestBetweenOfNoRows(t *testing.T) {
	for _, least := range []int64{math.MinInt64, -1, 0, 1, math.MaxInt64} {
		for _, most := range []int64{math.MinInt64, -1, 0, 1, math.MaxInt64} {
			between(t, api.Sym{}, least, most, api.OK)
			between(t, api.Sym{A: []int64{}}, least, most, api.OK)
		}
	}
}

// TestBetweenOfNotRight: ErrSize, whatever the bounds are.
func TestBetweenOfNotRight(t *testing.T) {
	for _, m := range wrongs() {
		for _, least := range []int64{math.MinInt64, 0, 4, 5, math.MaxInt64} {
			for _, most := range []int64{math.MinInt64, 0, 5, 6, math.MaxInt64} {
				between(t, m, least, most, api.ErrSize)
			}
		}
	}
}
