package clock_test

import (
	"errors"
	"math"
	"math/rand/v2"
	"testing"

	"leadline/api"
	"leadline/clock"
	"leadline/fault"
)

// half: the least difference that is too old; round: where times begin again; end: the greatest time.
const (
	half  = 1 << 31
	round = 1 << 32
	end   = math.MaxUint32
)

// edges tells times at the ends and beside the middle, and some between.
func edges() []uint32 {
	return []uint32{0, 1, 2, 5, 1000, half/2 - 1, half / 2, half - 2, half - 1, half, half + 1, half + 2, half + half/2, end - 1000, end - 2, end - 1, end}
}

// steps tells differences beside nought and beside 2 to the 31, either way, and some between.
func steps() []uint32 {
	return append(edges(), 255, 256, 65535, 65536, 1<<24, 1<<30+1, half-1000, half+1000, half+1<<24)
}

// thrown tells a source of numbers by chance, always the same ones of a seed.
func thrown(seed uint64) *rand.Rand {
	return rand.New(rand.NewPCG(seed, 14))
}

// kept: a clock, and what is promised of it, reckoned in greater numbers.
type kept struct {
	c    *clock.Clock
	last uint64
	told bool
}

// fresh tells a clock that took no time.
func fresh() *kept {
	return &kept{c: clock.New()}
}

// at tells a clock of which t is the only time.
func at(t *testing.T, time uint32) *kept {
	t.Helper()
	k := fresh()
	k.take(t, time)
	return k
}

// clone tells the clone of a clock, and the same promises.
func (k *kept) clone() *kept {
	return &kept{c: k.c.Clone(), last: k.last, told: k.told}
}

// lastIs holds the last time against what is promised.
func (k *kept) lastIs(t *testing.T) {
	t.Helper()
	if last, ok := k.c.Last(); uint64(last) != k.last || ok != k.told {
		t.Errorf("P14.1: Last: %d, %t instead of %d, %t", last, ok, k.last, k.told)
	}
}

// take holds a time's answer, and the last time ahead and behind, against what is promised.
func (k *kept) take(t *testing.T, time uint32) {
	t.Helper()
	k.lastIs(t)
	want := (uint64(time) + round - k.last) % round
	was := k.last
	d, err := k.c.Take(time)
	switch {
	case !k.told:
		isLater(t, was, time, d, err, 0)
	case want < half:
		isLater(t, was, time, d, err, want)
	default:
		isStale(t, was, time, d, err)
		k.lastIs(t)
		return
	}
	k.last, k.told = uint64(time), true
	k.lastIs(t)
}

// isLater holds an answer against the difference that is promised, without an error.
func isLater(t *testing.T, last uint64, time, d uint32, err error, want uint64) {
	t.Helper()
	if err != nil || uint64(d) != want {
		t.Errorf("P14.1: behind %d: Take(%d): %d, %v instead of %d", last, time, d, err, want)
	}
}

// isStale holds an answer against what is promised of a time that is too old: 0, and a fault of this package with ErrStale.
func isStale(t *testing.T, last uint64, time, d uint32, err error) {
	t.Helper()
	if d != 0 {
		t.Errorf("P14.1: behind %d: Take(%d): %d beside an error", last, time, d)
	}
	if _, ok := err.(*fault.Fault); !ok {
		t.Errorf("P14.1: behind %d: Take(%d): %d, %v: %T is no fault", last, time, d, err, err)
		return
	}
	var n api.Errno
	if !errors.As(err, &n) || n != api.ErrStale || !errors.Is(err, api.ErrStale) {
		t.Errorf("P14.1: behind %d: Take(%d): %v instead of %v", last, time, err, api.ErrStale)
	}
	if fault.Code(err) != 28 || !fault.Is(err, api.ErrStale) {
		t.Errorf("P14.1: behind %d: Take(%d): number %d", last, time, fault.Code(err))
	}
	if ops := fault.Ops(err); len(ops) == 0 || ops[0] != "clock" {
		t.Errorf("P14.1: behind %d: Take(%d): ops %q", last, time, ops)
	}
}

// takesIs takes a time, and holds the answer against what is written down where it is asked for.
func takesIs(t *testing.T, c *clock.Clock, time, want uint32, n api.Errno) {
	t.Helper()
	last, _ := c.Last()
	d, err := c.Take(time)
	if n == api.OK {
		isLater(t, uint64(last), time, d, err, uint64(want))
		return
	}
	isStale(t, uint64(last), time, d, err)
}

// lastIs holds a clock's last time against what is written down where it is asked for.
func lastIs(t *testing.T, c *clock.Clock, want uint32, there bool) {
	t.Helper()
	if last, ok := c.Last(); last != want || ok != there {
		t.Errorf("P14.1: Last: %d, %t instead of %d, %t", last, ok, want, there)
	}
}
