package clock_test

import (
	"testing"

	"leadline/api"
	"leadline/clock"
)

// goesOn takes steps from first on, each below the half: what is told adds up to how far it went, however often times go round.
func goesOn(t *testing.T, first uint32, n int, step func() uint32) uint64 {
	t.Helper()
	c := clock.New()
	takesIs(t, c, first, 0, api.OK)
	went, added := uint64(first), uint64(0)
	for range n {
		d := step()
		went += uint64(d)
		time := uint32(went % round)
		told, err := c.Take(time)
		if err != nil || told != d {
			t.Fatalf("P14.2: behind %d and %d more: Take(%d): %d, %v instead of %d", first, added, time, told, err, d)
		}
		added += uint64(told)
		lastIs(t, c, time, true)
	}
	if uint64(first)+added != went {
		t.Errorf("P14.2: %d and %d more instead of %d", first, added, went)
	}
	return went / round
}

// TestRoundItsEnd: time goes on by steps that are all the same, short ones beside the end, long ones often round it.
func TestRoundItsEnd(t *testing.T) {
	for _, x := range []struct {
		first uint32
		n     int
		step  uint32
		times uint64
	}{
		{end, 1, 1, 1},
		{end - 3, 10, 1, 1},
		{end - 1000, 300, 7, 1},
		{0, 100, 0, 0},
		{end, 100, 0, 0},
		{0, 3, half - 1, 1},
		{0, 5, half - 1, 2},
		{1, 3, half - 1, 1},
		{5, 2000, half - 1, 999},
		{half, 4000, half / 2, 1000},
		{12345, 1000000, 250000, 58},
	} {
		if times := goesOn(t, x.first, x.n, func() uint32 { return x.step }); times != x.times {
			t.Errorf("P14.2: from %d by %d: %d times round instead of %d", x.first, x.step, times, x.times)
		}
	}
}

// TestRoundByChance: time goes on by steps of all lengths below the half.
func TestRoundByChance(t *testing.T) {
	d := thrown(3)
	for _, first := range edges() {
		times := goesOn(t, first, 5000, func() uint32 { return d.Uint32() >> (1 + d.IntN(31)) })
		if times < 50 {
			t.Errorf("P14.2: from %d: %d times round", first, times)
		}
	}
}

// TestRoundAmongOlder: what comes too late among the times, round the end and beside the half too, doesn't make it stand or go back.
func TestRoundAmongOlder(t *testing.T) {
	d := thrown(4)
	for _, first := range edges() {
		c := clock.New()
		takesIs(t, c, first, 0, api.OK)
		last := first
		for range 3000 {
			for range d.IntN(4) {
				takesIs(t, c, last-(1+d.Uint32N(half)), 0, api.ErrStale) // from 1 to the half back
			}
			step := d.Uint32N(half)
			takesIs(t, c, last+step, step, api.OK)
			last += step
		}
		lastIs(t, c, last, true)
	}
}

// TestOnceAndAgainRound: twice round the end, written down, with what is ahead of the end too old when it is passed.
func TestOnceAndAgainRound(t *testing.T) {
	c := clock.New()
	for _, x := range []struct {
		time, want uint32
		n          api.Errno
	}{
		{4000000000, 0, api.OK},
		{4294967295, 294967295, api.OK},
		{0, 1, api.OK},
		{4294967295, 0, api.ErrStale},
		{4000000000, 0, api.ErrStale},
		{2000000000, 2000000000, api.OK},
		{4000000000, 2000000000, api.OK}, // what was too old comes again a round later
		{2000000000, 0, api.ErrStale},
		{5, 294967301, api.OK},
		{4, 0, api.ErrStale},
		{4294967295, 0, api.ErrStale},
		{2147483652, 2147483647, api.OK},
		{5, 0, api.ErrStale},
		{4, 0, api.ErrStale}, // just the half, round the end
		{3, 2147483647, api.OK},
	} {
		takesIs(t, c, x.time, x.want, x.n)
	}
	lastIs(t, c, 3, true)
}
