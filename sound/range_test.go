package sound_test

import "testing"

// TestRangeKnown: ranges that another program reckoned, halves among them.
func TestRangeKnown(t *testing.T) {
	for _, x := range []struct{ micros, speed, want int64 }{
		{0, 1, 0}, // no time
		{0, 1500000, 0},
		{0, 2000000, 0},
		{1, 1, 0},
		{1, 999999, 0},
		{1, 1000000, 1}, // just a half
		{1, 1000001, 1},
		{3, 1000000, 2}, // one and a half
		{5, 1000000, 3},
		{1, 1500000, 1},
		{2, 1500000, 2},
		{1, 2000000, 1},
		{2, 2000000, 2},
		{999999, 1, 0},
		{1000000, 1, 1}, // just a half, of the slowest
		{1000001, 1, 1},
		{1999999, 1, 1},
		{2000000, 1, 1}, // the longest time
		{2000000, 2, 2},
		{2000000, 1500000, 1500000},
		{2000000, 1999999, 1999999},
		{2000000, 2000000, 2000000}, // of the fastest: less than MaxRange
		{1999999, 2000000, 1999999},
		{1999999, 1999999, 1999998},
		{40000, 1500000, 30000},
		{123457, 1497531, 92440},
		{999, 1449200, 724},
		{1333333, 1500001, 1000000},
		{1414213, 1414213, 999999},
		{1414214, 1414214, 1000001},
	} {
		rangeIs(t, x.micros, x.speed, x.want)
	}
}

// TestRangeEnds: both measures at their ends and beside them, and by chance.
func TestRangeEnds(t *testing.T) {
	for _, micros := range microsSpan().within() {
		for _, speed := range speedSpan().within() {
			rangeIs(t, micros, speed, far(micros, speed))
		}
	}
	d := thrown(2)
	for range 50000 {
		micros, speed := microsSpan().some(d), speedSpan().some(d)
		rangeIs(t, micros, speed, far(micros, speed))
	}
}

// TestRangeHalves: odd times and speeds whose product is just a half, and products one below and one above.
func TestRangeHalves(t *testing.T) {
	for _, by := range []int64{1, 2, 4, 5, 8, 10, 32, 64, 125, 625, 1000, 3125, 15625, 1000000} {
		for odd := int64(1); odd*by <= 2000000; odd += 2 {
			if odd > 401 && odd%1001 != 0 {
				continue
			}
			rangeIs(t, odd*by, 1000000/by, (odd+1)/2)
			rangeIs(t, 1000000/by, odd*by, (odd+1)/2)
		}
	}
	for k := int64(1); k < 1998; k += 2 {
		rangeIs(t, 9901, 101*k, far(9901, 101*k))
		rangeIs(t, 999, 1001*k, far(999, 1001*k))
	}
	rangeIs(t, 9901, 101, 1) // 1000001 over 2000000
	rangeIs(t, 999, 1001, 0) // 999999 over 2000000
}

// TestRangeUnits: one measure that may not be, and both.
func TestRangeUnits(t *testing.T) {
	for _, speed := range speedSpan().within() {
		for _, micros := range microsSpan().outside() {
			rangeFails(t, micros, speed)
		}
	}
	for _, speed := range speedSpan().outside() {
		for _, micros := range microsSpan().within() {
			rangeFails(t, micros, speed)
		}
		for _, micros := range microsSpan().outside() {
			rangeFails(t, micros, speed)
		}
	}
	rangeFails(t, 0, 0) // no time, but no speed either
	rangeFails(t, 1, 0)
	rangeFails(t, -1, -1)
	rangeFails(t, -2000000, -1500000) // what comes out may be, what goes in may not
}
