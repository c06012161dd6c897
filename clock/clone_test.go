package clock_test

import (
	"testing"

	"leadline/api"
	"leadline/clock"
)

// TestCloneOfNone: the clone of a clock without a time has none; neither knows of the other's first.
func TestCloneOfNone(t *testing.T) {
	c := clock.New()
	l := c.Clone()
	lastIs(t, l, 0, false)
	takesIs(t, c, 1000, 0, api.OK)
	lastIs(t, l, 0, false)
	takesIs(t, l, 7, 0, api.OK) // its first, though it is older than the other's
	lastIs(t, l, 7, true)
	lastIs(t, c, 1000, true)
	takesIs(t, c, 1001, 1, api.OK)
	takesIs(t, l, 8, 1, api.OK)
}

// TestCloneAhead: a clone that takes the first time, while its clock has none still.
func TestCloneAhead(t *testing.T) {
	c := clock.New()
	l := c.Clone()
	takesIs(t, l, 1000, 0, api.OK)
	lastIs(t, c, 0, false)
	takesIs(t, c, 7, 0, api.OK)
	lastIs(t, l, 1000, true)
	lastIs(t, c, 7, true)
}

// TestCloneOfSome: the clone of a clock with a time goes on from it; neither knows of the other's times.
func TestCloneOfSome(t *testing.T) {
	for _, last := range edges() {
		k := at(t, last)
		l := k.clone()
		l.lastIs(t)
		k.take(t, last+10)
		l.lastIs(t)
		l.take(t, last+4) // too old for the clock, not for its clone
		k.lastIs(t)
		l.take(t, last+(half-1))
		k.take(t, last+11)
		l.take(t, last+11) // the other way round
		k.take(t, last+half+10)
		k.lastIs(t)
		l.lastIs(t)
	}
}

// TestCloneWritten: the same, with the answers written down.
func TestCloneWritten(t *testing.T) {
	c := clock.New()
	takesIs(t, c, 4294967290, 0, api.OK)
	l := c.Clone()
	lastIs(t, l, 4294967290, true)
	takesIs(t, c, 10, 16, api.OK)
	takesIs(t, l, 0, 6, api.OK)
	takesIs(t, c, 0, 0, api.ErrStale)
	takesIs(t, l, 10, 10, api.OK)
	takesIs(t, l, 30, 20, api.OK)
	lastIs(t, c, 10, true)
	lastIs(t, l, 30, true)
}

// TestCloneBehindStale: what was too old isn't in a clone.
func TestCloneBehindStale(t *testing.T) {
	c := clock.New()
	takesIs(t, c, 50, 0, api.OK)
	takesIs(t, c, 40, 0, api.ErrStale)
	l := c.Clone()
	lastIs(t, l, 50, true)
	takesIs(t, l, 45, 0, api.ErrStale)
	takesIs(t, l, 51, 1, api.OK)
	lastIs(t, c, 50, true)
}

// TestCloneIsNew: a clone is another clock, and its clones others again, and who takes one changes nothing.
func TestCloneIsNew(t *testing.T) {
	d := thrown(2)
	for range 200 {
		l := []*kept{fresh()}
		for range 100 {
			k := l[d.IntN(len(l))]
			if d.IntN(8) == 0 {
				l = append(l, k.clone())
			}
			k.take(t, uint32(k.last)+steps()[d.IntN(len(steps()))])
		}
		for i, k := range l {
			k.lastIs(t)
			for _, other := range l[:i] {
				if other.c == k.c {
					t.Errorf("P14.1: a clone is no new memory")
				}
			}
		}
	}
}
