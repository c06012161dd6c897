package clock_test

import (
	"testing"

	"leadline/api"
	"leadline/clock"
)

// TestLastOfNone: ahead of any time there is none, however often it is asked.
func TestLastOfNone(t *testing.T) {
	c := clock.New()
	lastIs(t, c, 0, false)
	lastIs(t, c, 0, false)
	takesIs(t, c, end, 0, api.OK) // who asked for it took none: it is the first one still
	lastIs(t, c, end, true)
}

// TestLastOfNought: a time of 0 is one.
func TestLastOfNought(t *testing.T) {
	c := clock.New()
	takesIs(t, c, 0, 0, api.OK)
	lastIs(t, c, 0, true)
	takesIs(t, c, end, 0, api.ErrStale)
	lastIs(t, c, 0, true)
	takesIs(t, c, 9, 9, api.OK)
	lastIs(t, c, 9, true)
}

// TestLastNoughtAgain: it is 0 again when the time went round.
func TestLastNoughtAgain(t *testing.T) {
	c := clock.New()
	takesIs(t, c, end, 0, api.OK)
	takesIs(t, c, 0, 1, api.OK)
	lastIs(t, c, 0, true)
	takesIs(t, c, end, 0, api.ErrStale)
	lastIs(t, c, 0, true)
	takesIs(t, c, 1, 1, api.OK)
}

// TestLastAsked: who asks for the last time changes nothing.
func TestLastAsked(t *testing.T) {
	for _, first := range edges() {
		for _, step := range steps() {
			asked, other := clock.New(), clock.New()
			asked.Last()
			asked.Take(first)
			other.Take(first)
			asked.Last()
			lastIs(t, asked, first, true)
			got, err := asked.Take(first + step)
			want, wantErr := other.Take(first + step)
			if got != want || (err == nil) != (wantErr == nil) {
				t.Errorf("P14.1: behind %d: Take(%d): %d, %v instead of %d, %v", first, first+step, got, err, want, wantErr)
			}
		}
	}
}
