package msg_test

import (
	"bytes"
	"math"
	"testing"

	"leadline/api"
	"leadline/msg"
)

// pair: a message and its bytes.
type pair struct {
	m      api.Msg
	digits string
}

// known tells messages whose bytes another program made.
func known() []pair {
	return []pair{
		{api.Msg{Kind: api.MsgSpeed, Time: 0x01020304, A: -1, B: 10000}, "010102030400ffffffff00002710"},
		{api.Msg{Kind: api.MsgSpeed, Time: 0x80000000, A: -10000, B: -10000}, "018000000000ffffd8f0ffffd8f0"},
		{api.Msg{Kind: api.MsgSpeed, A: 10000, B: -1}, "01000000000000002710ffffffff"},
		{api.Msg{Kind: api.MsgSpeed}, "0100000000000000000000000000"},
		{api.Msg{Kind: api.MsgCompass, Time: 0xfffefdfc, A: 65535}, "02fffefdfc000000ffff00000000"},
		{api.Msg{Kind: api.MsgCompass, Time: 7}, "0200000007000000000000000000"},
		{api.Msg{Kind: api.MsgCompass, Time: 5, A: 0x1234}, "0200000005000000123400000000"},
		{api.Msg{Kind: api.MsgDepth, Time: 0xffffffff, A: 1000000}, "03ffffffff00000f424000000000"},
		{api.Msg{Kind: api.MsgDepth, Time: 0x00ff00ff, A: 0x0b0c0d}, "0300ff00ff00000b0c0d00000000"},
		{api.Msg{Kind: api.MsgRange, Time: 0xa1b2c3d4, A: 1}, "04a1b2c3d4000000000100000000"},
		{api.Msg{Kind: api.MsgRange, Time: 1, Id: 1, A: 2000000}, "040000000101001e848000000000"},
		{api.Msg{Kind: api.MsgRange, Time: 0x7fffffff, Id: 255, A: 0x123456}, "047fffffffff0012345600000000"},
		{api.Msg{Kind: api.MsgWater, Time: 0x10203040, A: -500, B: 4500}, "051020304000fffffe0c00001194"},
		{api.Msg{Kind: api.MsgWater, Time: 2, A: 4500}, "0500000002000000119400000000"},
		{api.Msg{Kind: api.MsgWater, Time: 3, A: -1, B: 3874}, "050000000300ffffffff00000f22"},
		{api.Msg{Kind: api.MsgWater, Time: 9, A: -256, B: 256}, "050000000900ffffff0000000100"},
	}
}

// TestPutKnown: bytes that another program made.
func TestPutKnown(t *testing.T) {
	for _, p := range known() {
		putIs(t, p.m, of(p.digits), api.OK)
	}
}

// TestPutPlaces: each part stands in its own bytes, and changes those alone.
func TestPutPlaces(t *testing.T) {
	for bit := range 32 {
		b, err := msg.Put(api.Msg{Kind: api.MsgDepth, Time: 1 << bit})
		want := make([]byte, length)
		want[0] = 3
		want[4-bit/8] = 1 << (bit % 8)
		if err != nil || !bytes.Equal(b, want) {
			t.Errorf("P12.2: a time of bit %d: %x, %v instead of %x", bit, b, err, want)
		}
	}
	for id := range 256 {
		putIs(t, api.Msg{Kind: api.MsgRange, Id: uint8(id), A: 1}, []byte{4, 0, 0, 0, 0, byte(id), 0, 0, 0, 1, 0, 0, 0, 0}, api.OK)
	}
	for bit := range 20 {
		want := make([]byte, length)
		want[0] = 4
		want[9-bit/8] = 1 << (bit % 8)
		putIs(t, api.Msg{Kind: api.MsgRange, A: 1 << bit}, want, api.OK)
	}
	for bit := range 13 {
		want := make([]byte, length)
		want[0] = 5
		want[13-bit/8] = 1 << (bit % 8)
		putIs(t, api.Msg{Kind: api.MsgWater, B: 1 << bit}, want, api.OK)
	}
}

// TestPutBelowNought: numbers below nought are in two's complement, A and B each by itself.
func TestPutBelowNought(t *testing.T) {
	for v := int32(-10000); v <= 10000; v++ {
		q := quarters(int64(v))
		a := append(append([]byte{1, 0, 0, 0, 0, 0}, q...), 0, 0, 0, 1)
		putIs(t, api.Msg{Kind: api.MsgSpeed, A: v, B: 1}, a, api.OK)
		b := append([]byte{1, 0, 0, 0, 0, 0, 0, 0, 0, 1}, q...)
		putIs(t, api.Msg{Kind: api.MsgSpeed, A: 1, B: v}, b, api.OK)
	}
}

// TestPutMany: all edges: bytes of what may be, Check's error and nothing of all else.
func TestPutMany(t *testing.T) {
	for _, m := range many() {
		n := promised(m)
		var want []byte
		if n == api.OK {
			want = laid(m)
		}
		putIs(t, m, want, n)
	}
}

// TestPutKinds: what isn't a kind has no bytes, whatever its lowest byte is; its kind is what is told first.
func TestPutKinds(t *testing.T) {
	for _, k := range kindsThatAreNone() {
		putIs(t, api.Msg{Kind: k}, nil, api.ErrKind)
		putIs(t, api.Msg{Kind: k, A: 1}, nil, api.ErrKind)
		putIs(t, api.Msg{Kind: k, Time: 9, Id: 9, A: math.MinInt32, B: math.MaxInt32}, nil, api.ErrKind)
	}
}

// TestPutNothingBesideAnError: not even an empty piece of what was put together.
func TestPutNothingBesideAnError(t *testing.T) {
	for _, m := range many() {
		if b, err := msg.Put(m); err != nil && b != nil {
			t.Fatalf("P12.2: Put of %+v: %x beside %v", m, b, err)
		}
	}
}
