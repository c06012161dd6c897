package gate_test

import (
	"math"
	"testing"

	"leadline/gate"
)

// qualityIs holds Quality against a number that is written down.
func qualityIs(t *testing.T, score int, passed bool, want int) {
	t.Helper()
	if got := gate.Quality(score, passed); got != want {
		t.Errorf("P17.2: Quality(%d, %v): %d instead of %d", score, passed, got, want)
	}
}

// TestQualityKnown: the chapter's example, and all scores that may be.
func TestQualityKnown(t *testing.T) {
	qualityIs(t, 0, false, -2) // the chapter's
	for _, x := range []struct{ score, passed, not int }{
		{-8, -7, -8}, {-7, -6, -8}, {-6, -5, -8}, {-5, -4, -7}, {-4, -3, -6}, {-3, -2, -5}, {-2, -1, -4}, {-1, 0, -3},
		{0, 1, -2}, {1, 2, -1}, {2, 3, 0}, {3, 4, 1}, {4, 5, 2}, {5, 6, 3}, {6, 7, 4}, {7, 8, 5}, {8, 8, 6},
	} {
		qualityIs(t, x.score, true, x.passed)
		qualityIs(t, x.score, false, x.not)
	}
}

// TestQualityBeyond: scores that may not be count as the nearest that may, ahead of what is more or less: one past the ends, farther, at the type's.
func TestQualityBeyond(t *testing.T) {
	for _, score := range []int{9, 10, 11, 16, 255, 256, 1<<16 + 1, math.MaxInt32, 1 << 32, 1<<32 - 3, math.MaxInt - 1, math.MaxInt} {
		qualityIs(t, score, true, 8)
		qualityIs(t, score, false, 6)
	}
	for _, score := range []int{-9, -10, -11, -16, -256, -1<<16 + 1, math.MinInt32, -1 << 32, -1<<32 + 3, math.MinInt + 1, math.MinInt + 2, math.MinInt} {
		qualityIs(t, score, true, -7)
		qualityIs(t, score, false, -8)
	}
}
