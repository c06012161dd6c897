package dead_test

import (
	"math"
	"testing"

	"leadline/api"
)

// spots tells coordinates that may be: the ends, those beside them, nought, some between.
func spots() []int64 {
	return []int64{-farthest, 1 - farthest, 2 - farthest, -farthest / 2, -1234567, -1, 0, 1, 848895, farthest / 2, farthest/2 + 1, farthest - 2, farthest - 1, farthest}
}

// TestSumKnown: sums that may be, written down.
func TestSumKnown(t *testing.T) {
	for _, x := range []struct{ a, b, want api.Point }{
		{api.Point{}, api.Point{}, api.Point{}},
		{api.Point{X: 1, Y: 2}, api.Point{X: 10, Y: 20}, api.Point{X: 11, Y: 22}},
		{api.Point{X: 1, Y: -2}, api.Point{X: -10, Y: 20}, api.Point{X: -9, Y: 18}},
		{api.Point{X: 5, Y: 7}, api.Point{X: -5, Y: -7}, api.Point{}},
		{api.Point{X: 4194304, Y: -4194304}, api.Point{}, api.Point{X: 4194304, Y: -4194304}},
		{api.Point{}, api.Point{X: -4194304, Y: 4194304}, api.Point{X: -4194304, Y: 4194304}},
		{api.Point{X: 4194304, Y: 4194304}, api.Point{X: -4194304, Y: -4194304}, api.Point{}},
		{api.Point{X: 4194303, Y: -4194303}, api.Point{X: 1, Y: -1}, api.Point{X: 4194304, Y: -4194304}},
		{api.Point{X: 2097152, Y: -2097152}, api.Point{X: 2097152, Y: -2097152}, api.Point{X: 4194304, Y: -4194304}},
		{api.Point{X: 4194304, Y: 4194304}, api.Point{X: -1, Y: -8388608 + 4194304}, api.Point{X: 4194303}},
	} {
		sumIs(t, x.a, x.b, x.want)
		sumIs(t, x.b, x.a, x.want)
	}
}

// TestSumTooFar: one place that is too far off, both, neither and yet their sum; by one coordinate alone, and by both.
func TestSumTooFar(t *testing.T) {
	for _, x := range []struct{ a, b api.Point }{
		{api.Point{X: 4194305}, api.Point{}},
		{api.Point{X: -4194305}, api.Point{}},
		{api.Point{Y: 4194305}, api.Point{}},
		{api.Point{Y: -4194305}, api.Point{}},
		{api.Point{X: 4194305}, api.Point{X: -1}}, // the sum isn't
		{api.Point{X: -4194305}, api.Point{X: 1}},
		{api.Point{Y: 4194305}, api.Point{Y: -4194304}},
		{api.Point{Y: -4194305}, api.Point{Y: 4194304}},
		{api.Point{X: 4194305, Y: 4194305}, api.Point{X: -5, Y: -5}},
		{api.Point{X: 4194305}, api.Point{X: -4194305}}, // both
		{api.Point{X: 4194305}, api.Point{Y: 4194305}},
		{api.Point{X: 4194305, Y: -4194305}, api.Point{X: -4194305, Y: 4194305}},
		{api.Point{X: 4194304}, api.Point{X: 1}}, // the sum alone
		{api.Point{X: -4194304}, api.Point{X: -1}},
		{api.Point{Y: 4194304}, api.Point{Y: 1}},
		{api.Point{Y: -4194304}, api.Point{Y: -1}},
		{api.Point{X: 2097153}, api.Point{X: 2097152}},
		{api.Point{Y: -2097153}, api.Point{Y: -2097152}},
		{api.Point{X: 4194304, Y: 4194304}, api.Point{X: 4194304, Y: 4194304}},
		{api.Point{X: 5, Y: 4194304}, api.Point{X: 6, Y: 4}},
		{api.Point{X: -4194304, Y: 5}, api.Point{X: -4, Y: 6}},
	} {
		sumFails(t, x.a, x.b)
		sumFails(t, x.b, x.a)
	}
}

// TestSumEndsOfType: coordinates whose sum goes round, or is little again.
func TestSumEndsOfType(t *testing.T) {
	for _, x := range []struct{ v, w int64 }{
		{math.MinInt64, 0},
		{math.MaxInt64, 0},
		{math.MinInt64, math.MinInt64}, // 0, if it went round
		{math.MaxInt64, math.MaxInt64}, // -2
		{math.MinInt64, math.MaxInt64},
		{math.MinInt64 + 1, math.MaxInt64},
		{math.MinInt64, -1},
		{math.MaxInt64, 1},
		{math.MinInt64, farthest},
		{math.MaxInt64, -farthest},
		{1 << 62, -1 << 62},
		{1 << 32, -1 << 32},
	} {
		for _, other := range []int64{0, 1, -farthest, farthest} {
			sumFails(t, api.Point{X: x.v, Y: other}, api.Point{X: x.w})
			sumFails(t, api.Point{X: x.w}, api.Point{X: x.v, Y: other})
			sumFails(t, api.Point{X: other, Y: x.v}, api.Point{Y: x.w})
			sumFails(t, api.Point{Y: x.w}, api.Point{X: other, Y: x.v})
			sumFails(t, api.Point{X: x.v, Y: x.v}, api.Point{X: x.w, Y: x.w})
		}
	}
}

// TestSumEnds: all coordinates at their ends and beside them, one of them past them, and by chance.
func TestSumEnds(t *testing.T) {
	for _, v := range spots() {
		for _, w := range spots() {
			for _, x := range spots() {
				for _, y := range spots() {
					sumHolds(t, api.Point{X: v, Y: w}, api.Point{X: x, Y: y})
				}
			}
			for _, x := range beyond(farthest) {
				sumFails(t, api.Point{X: x, Y: v}, api.Point{X: w, Y: w})
				sumFails(t, api.Point{X: v, Y: x}, api.Point{X: w, Y: w})
				sumFails(t, api.Point{X: v, Y: v}, api.Point{X: x, Y: w})
				sumFails(t, api.Point{X: v, Y: v}, api.Point{X: w, Y: x})
			}
		}
	}
	d := thrown(2)
	for range 100000 {
		sumHolds(t, api.Point{X: upTo(d, farthest), Y: upTo(d, farthest)}, api.Point{X: upTo(d, farthest), Y: upTo(d, farthest)})
	}
	for range 20000 {
		sumHolds(t, api.Point{X: upTo(d, farthest+9), Y: upTo(d, farthest)}, api.Point{X: upTo(d, 9), Y: upTo(d, farthest+9)})
	}
}
