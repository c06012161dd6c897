package msg_test

import (
	"math"
	"testing"

	"leadline/api"
	"leadline/fault"
	"leadline/msg"
)

// checkIs holds Check of m against the number of an error.
func checkIs(t *testing.T, m api.Msg, n api.Errno) {
	t.Helper()
	errIs(t, "P12.1: Check", m, msg.Check(m), n)
}

// TestCheckExample: the chapter's.
func TestCheckExample(t *testing.T) {
	checkIs(t, api.Msg{Kind: api.MsgDepth, A: -1}, api.ErrUnits)
	checkIs(t, api.Msg{Kind: api.MsgDepth}, api.OK)
}

// TestCheckMay: what may be, each kind at its ends.
func TestCheckMay(t *testing.T) {
	for _, m := range []api.Msg{
		{Kind: api.MsgSpeed},
		{Kind: api.MsgSpeed, A: 10000, B: -10000},
		{Kind: api.MsgSpeed, A: -10000, B: 10000},
		{Kind: api.MsgSpeed, A: -10000, B: -10000},
		{Kind: api.MsgSpeed, A: 10000, B: 10000},
		{Kind: api.MsgCompass},
		{Kind: api.MsgCompass, A: 65535},
		{Kind: api.MsgDepth},
		{Kind: api.MsgDepth, A: 1000000},
		{Kind: api.MsgRange, A: 1},
		{Kind: api.MsgRange, A: 2000000},
		{Kind: api.MsgRange, A: 1, Id: 1},
		{Kind: api.MsgRange, A: 2000000, Id: 255},
		{Kind: api.MsgWater},
		{Kind: api.MsgWater, A: -500},
		{Kind: api.MsgWater, A: 4500},
		{Kind: api.MsgWater, A: -500, B: 4500},
		{Kind: api.MsgWater, A: 4500, B: 4500},
	} {
		for _, time := range []uint32{0, 1, 1 << 31, math.MaxUint32} {
			m.Time = time
			checkIs(t, m, api.OK)
		}
	}
}

// TestCheckUnits: one measure that may not be.
func TestCheckUnits(t *testing.T) {
	for _, m := range []api.Msg{
		{Kind: api.MsgSpeed, A: 10001},
		{Kind: api.MsgSpeed, A: -10001},
		{Kind: api.MsgSpeed, B: 10001},
		{Kind: api.MsgSpeed, B: -10001},
		{Kind: api.MsgSpeed, Id: 1},
		{Kind: api.MsgSpeed, Id: 255},
		{Kind: api.MsgCompass, A: -1},
		{Kind: api.MsgCompass, A: 65536},
		{Kind: api.MsgCompass, B: 1},
		{Kind: api.MsgCompass, B: -1},
		{Kind: api.MsgCompass, Id: 1},
		{Kind: api.MsgCompass, Id: 255},
		{Kind: api.MsgDepth, A: -1},
		{Kind: api.MsgDepth, A: 1000001},
		{Kind: api.MsgDepth, B: 1},
		{Kind: api.MsgDepth, B: -1},
		{Kind: api.MsgDepth, Id: 1},
		{Kind: api.MsgDepth, Id: 255},
		{Kind: api.MsgRange},
		{Kind: api.MsgRange, Id: 7},
		{Kind: api.MsgRange, A: -1},
		{Kind: api.MsgRange, A: 2000001},
		{Kind: api.MsgRange, A: 1, B: 1},
		{Kind: api.MsgRange, A: 1, B: -1},
		{Kind: api.MsgRange, A: 1, B: math.MinInt32, Id: 255},
		{Kind: api.MsgWater, A: -501},
		{Kind: api.MsgWater, A: 4501},
		{Kind: api.MsgWater, B: -1},
		{Kind: api.MsgWater, B: 4501},
		{Kind: api.MsgWater, Id: 1},
		{Kind: api.MsgWater, Id: 255},
	} {
		checkIs(t, m, api.ErrUnits)
		m.Time = math.MaxUint32
		checkIs(t, m, api.ErrUnits)
	}
}

// TestCheckLimits: each measure by itself at its edges and at its type's ends, all else as it may be.
func TestCheckLimits(t *testing.T) {
	for _, l := range limits() {
		for _, a := range []int32{l.aBelow, l.aPast, l.aBelow - 1, l.aPast + 1, math.MinInt32, math.MaxInt32} {
			checkIs(t, api.Msg{Kind: l.kind, A: a}, api.ErrUnits)
		}
		for _, a := range []int32{l.aLeast, l.aLeast + 1, l.aMost - 1, l.aMost} {
			checkIs(t, api.Msg{Kind: l.kind, A: a}, api.OK)
			for _, b := range []int32{l.bLeast - 1, l.bMost + 1, math.MinInt32, math.MaxInt32} {
				checkIs(t, api.Msg{Kind: l.kind, A: a, B: b}, api.ErrUnits)
			}
			for _, b := range []int32{l.bLeast, l.bMost, 0} {
				checkIs(t, api.Msg{Kind: l.kind, A: a, B: b}, api.OK)
			}
		}
	}
}

// TestCheckBeacon: all beacons' numbers; but for a range there is none.
func TestCheckBeacon(t *testing.T) {
	for _, l := range limits() {
		for id := range 256 {
			want := api.ErrUnits
			if id == 0 || l.kind == api.MsgRange {
				want = api.OK
			}
			checkIs(t, api.Msg{Kind: l.kind, A: 1, Id: uint8(id)}, want)
		}
	}
}

// TestCheckNumbers: all numbers in a wide reach around what may be, in A and in B.
func TestCheckNumbers(t *testing.T) {
	for _, l := range limits() {
		for a := int32(-12000); a <= 2001000; a++ {
			m := api.Msg{Kind: l.kind, A: a}
			if got, want := fault.Code(msg.Check(m)), promised(m); got != want {
				t.Fatalf("P12.1: Check of %+v: %v instead of %v", m, got, want)
			}
		}
		for b := int32(-12000); b <= 12000; b++ {
			m := api.Msg{Kind: l.kind, A: 1, B: b}
			if got, want := fault.Code(msg.Check(m)), promised(m); got != want {
				t.Fatalf("P12.1: Check of %+v: %v instead of %v", m, got, want)
			}
		}
	}
}

// TestCheckBits: numbers of one bit, and of all bits but one: none is taken for what its lower bits are.
func TestCheckBits(t *testing.T) {
	for _, l := range limits() {
		for bit := range 32 {
			v := int32(uint32(1) << bit)
			for _, m := range []api.Msg{{A: v}, {A: ^v}, {A: v + 1}, {A: 1, B: v}, {A: 1, B: ^v}, {A: v, B: v}, {A: ^v, B: v}} {
				m.Kind = l.kind
				checkIs(t, m, promised(m))
			}
		}
	}
}

// TestCheckKinds: what isn't a kind, with measures that some kind may have and with such as none has.
func TestCheckKinds(t *testing.T) {
	l := kindsThatAreNone()
	for k := -1000; k <= 1000; k++ {
		if k < 1 || k > 5 {
			l = append(l, k)
		}
	}
	for _, k := range l {
		checkIs(t, api.Msg{Kind: k}, api.ErrKind)
		checkIs(t, api.Msg{Kind: k, A: 1}, api.ErrKind)
		checkIs(t, api.Msg{Kind: k, A: -1}, api.ErrKind)
		checkIs(t, api.Msg{Kind: k, Id: 1, A: 1}, api.ErrKind)
		checkIs(t, api.Msg{Kind: k, Time: math.MaxUint32, Id: 255, A: math.MinInt32, B: math.MaxInt32}, api.ErrKind)
	}
	if api.MsgKinds != 6 {
		t.Errorf("P12.1: %d kinds", api.MsgKinds)
	}
}

// TestCheckMany: all edges in all measures at once.
func TestCheckMany(t *testing.T) {
	for _, m := range many() {
		checkIs(t, m, promised(m))
	}
}
