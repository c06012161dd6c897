package crc_test

import (
	"encoding/binary"
	"hash/crc32"
	"testing"

	"leadline/crc"
)

// TestMoreOfAll holds each byte behind each sum: the sum is changed by it at its upper byte, then divided.
func TestMoreOfAll(t *testing.T) {
	var want [sums]uint16
	for v := range want {
		want[v] = divided(uint16(v), []byte{0})
	}
	for v := range sums {
		for b := range 256 {
			if got := crc.More(uint16(v), byte(b)); got != want[v^b*256] {
				t.Fatalf("P10.1: More(%#04x, %#02x): %#04x instead of %#04x", v, b, got, want[v^b*256])
			}
		}
	}
}

// TestMoreKnown holds what another program reckoned.
func TestMoreKnown(t *testing.T) {
	for _, x := range []struct {
		sum  uint16
		b    byte
		want uint16
	}{
		{0, 0, 0}, {0, 1, 0x1021}, {0, 0x80, 0x9188}, {0, 0xff, 0x1ef0},
		{1, 0, 0x0100}, {0x0080, 0, 0x8000}, {0x00ff, 0, 0xff00}, {0x00b1, 0xb1, 0x06fa},
		{0x0100, 0, 0x1021}, {0x0100, 1, 0}, {0x8000, 0, 0x9188}, {0x8000, 0x80, 0},
		{0xff00, 0xff, 0}, {0xffff, 0, 0xe1f0}, {0xffff, 0xff, 0xff00},
		{0x1021, 0x10, 0x2100}, {0x29b1, 0x29, 0xb100}, {0xe1f0, 0, 0x1d0f},
	} {
		if got := crc.More(x.sum, x.b); got != x.want {
			t.Errorf("P10.1: More(%#04x, %#02x): %#04x instead of %#04x", x.sum, x.b, got, x.want)
		}
	}
}

// TestSameEverywhere holds the sum of all answers' bytes, byte by byte and sum by sum, against what another program reckoned.
func TestSameEverywhere(t *testing.T) {
	var got uint32
	for b := range 256 {
		var l []byte
		for v := range sums {
			l = binary.BigEndian.AppendUint16(l, crc.More(uint16(v), byte(b)))
		}
		got = crc32.Update(got, crc32.IEEETable, l)
	}
	if got != 0xb51c2d5e {
		t.Errorf("P10.1: More of all: %#x", got)
	}
}

// TestMoreOfEachSum: no two sums become the same by one byte, nor one sum the same by two bytes.
func TestMoreOfEachSum(t *testing.T) {
	for b := range 256 {
		var told [sums]bool
		for v := range sums {
			sum := crc.More(uint16(v), byte(b))
			if told[sum] {
				t.Fatalf("P10.2: More(%#04x, %#02x): %#04x is told of another sum too", v, b, sum)
			}
			told[sum] = true
		}
	}
	for v := range sums {
		var told [sums]bool
		for b := range 256 {
			sum := crc.More(uint16(v), byte(b))
			if told[sum] {
				t.Fatalf("P10.2: More(%#04x, %#02x): %#04x is told of another byte too", v, b, sum)
			}
			told[sum] = true
		}
	}
}

// TestOwnBytesBehind: with its own two bytes behind, the upper one first, each sum is 0; not the other way round, and not with one of them turned.
func TestOwnBytesBehind(t *testing.T) {
	for v := range sums {
		l := halves(uint16(v))
		if got := crc.More(crc.More(uint16(v), l[0]), l[1]); got != 0 {
			t.Errorf("P10.1: %#04x with %x behind: %#04x instead of 0", v, l, got)
		}
		if got := crc.More(crc.More(uint16(v), l[1]), l[0]); (got == 0) != (l[0] == l[1]) {
			t.Errorf("P10.1: %#04x with its bytes behind, the lower one first: %#04x", v, got)
		}
		if got := crc.More(crc.More(uint16(v), l[0]), ^l[1]); got == 0 {
			t.Errorf("P10.2: %#04x with %#02x, %#02x behind: 0", v, l[0], ^l[1])
		}
	}
}
