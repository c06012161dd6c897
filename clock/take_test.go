package clock_test

import (
	"testing"

	"leadline/api"
	"leadline/clock"
)

// TestTakeExample: the chapter's.
func TestTakeExample(t *testing.T) {
	c := clock.New()
	takesIs(t, c, 5, 0, api.OK)
	takesIs(t, c, 4, 0, api.ErrStale)
	lastIs(t, c, 5, true)
}

// TestTakeFirst: the first time is the last one, whatever it is, and is no later than any.
func TestTakeFirst(t *testing.T) {
	for _, time := range steps() {
		c := clock.New()
		takesIs(t, c, time, 0, api.OK)
		lastIs(t, c, time, true)
	}
}

// TestTakeSecond: the first time was taken, whatever it was, 0 too: the second one is held against it.
func TestTakeSecond(t *testing.T) {
	for _, first := range edges() {
		for _, d := range []uint32{1, 7, half - 1} {
			c := clock.New()
			takesIs(t, c, first, 0, api.OK)
			takesIs(t, c, first+d, d, api.OK)
			lastIs(t, c, first+d, true)
		}
		for _, back := range []uint32{1, 7, half - 1, half} {
			c := clock.New()
			takesIs(t, c, first, 0, api.OK)
			takesIs(t, c, first-back, 0, api.ErrStale)
			lastIs(t, c, first, true)
		}
	}
}

// TestTakeKnown: times behind others, written down: same ones, beside one another, beside the half, and round the end.
func TestTakeKnown(t *testing.T) {
	for _, x := range []struct {
		last, time, want uint32
		n                api.Errno
	}{
		{5, 5, 0, api.OK},
		{5, 6, 1, api.OK},
		{5, 4, 0, api.ErrStale},
		{0, 0, 0, api.OK},
		{0, 1, 1, api.OK},
		{0, 4294967295, 0, api.ErrStale},
		{0, 2147483647, 2147483647, api.OK},
		{0, 2147483648, 0, api.ErrStale}, // just the half
		{0, 2147483649, 0, api.ErrStale},
		{5, 2147483652, 2147483647, api.OK},
		{5, 2147483653, 0, api.ErrStale},
		{5, 2147483654, 0, api.ErrStale},
		{1000000, 1000250, 250, api.OK},
		{1000250, 1000000, 0, api.ErrStale},
		{2147483647, 2147483648, 1, api.OK},
		{2147483648, 2147483647, 0, api.ErrStale},
		{2147483647, 4294967294, 2147483647, api.OK},
		{2147483647, 4294967295, 0, api.ErrStale},
		{2147483647, 0, 0, api.ErrStale},
		{2147483648, 2147483648, 0, api.OK},
		{2147483648, 4294967295, 2147483647, api.OK},
		{2147483648, 0, 0, api.ErrStale}, // just the half, round the end
		{2147483648, 1, 0, api.ErrStale},
		{2147483649, 0, 2147483647, api.OK},
		{2147483649, 1, 0, api.ErrStale},
		{3000000000, 1000000000, 0, api.ErrStale},
		{3000000000, 800000000, 2094967296, api.OK},
		{4294967295, 4294967295, 0, api.OK},
		{4294967295, 4294967294, 0, api.ErrStale},
		{4294967295, 0, 1, api.OK},
		{4294967295, 1, 2, api.OK},
		{4294967295, 2147483646, 2147483647, api.OK},
		{4294967295, 2147483647, 0, api.ErrStale},
		{4294967295, 2147483648, 0, api.ErrStale},
		{4294967290, 10, 16, api.OK},
		{10, 4294967290, 0, api.ErrStale},
	} {
		c := clock.New()
		takesIs(t, c, x.last, 0, api.OK)
		takesIs(t, c, x.time, x.want, x.n)
		if x.n == api.OK {
			lastIs(t, c, x.time, true)
		} else {
			lastIs(t, c, x.last, true)
		}
	}
}

// TestTakeSteps: a step on from each edge, and one more from there, by greater numbers.
func TestTakeSteps(t *testing.T) {
	for _, first := range edges() {
		for _, one := range steps() {
			for _, more := range steps() {
				k := at(t, first)
				k.take(t, first+one)
				k.take(t, first+one+more)
				k.take(t, more)
			}
		}
	}
}

// TestTakeByChance: many times, whatever they are, to one clock.
func TestTakeByChance(t *testing.T) {
	d := thrown(1)
	for range 50 {
		k := fresh()
		for range 2000 {
			time := d.Uint32()
			if d.IntN(2) == 0 {
				time = uint32(k.last) + steps()[d.IntN(len(steps()))]
			}
			k.take(t, time)
		}
	}
}

// TestStaleStays: what is too old changes nothing, however often it comes; a later one goes on from the last that was taken.
func TestStaleStays(t *testing.T) {
	for _, last := range edges() {
		for _, back := range []uint32{1, 2, 1000, half / 2, half - 1, half} {
			c := clock.New()
			takesIs(t, c, last, 0, api.OK)
			for _, more := range []uint32{0, 0, 1, 500} {
				if back+more <= half {
					takesIs(t, c, last-back-more, 0, api.ErrStale)
				}
				lastIs(t, c, last, true)
			}
			takesIs(t, c, last, 0, api.OK) // the same again isn't too old
			takesIs(t, c, last-back, 0, api.ErrStale)
			takesIs(t, c, last+3, 3, api.OK)
			lastIs(t, c, last+3, true)
			takesIs(t, c, last+2, 0, api.ErrStale)
			takesIs(t, c, last+3+(half-1), half-1, api.OK)
			lastIs(t, c, last+3+(half-1), true)
		}
	}
}
