package crc_test

import (
	"bytes"
	"testing"

	"leadline/crc"
)

// turnsAt turns b's byte at i by each of its bits, and by several of them, all ways; each of them must change the sum.
func turnsAt(t *testing.T, b []byte, i int) {
	t.Helper()
	own := crc.Sum(b)
	turned := bytes.Clone(b)
	for by := 1; by < 256; by++ {
		turned[i] = b[i] ^ byte(by)
		if crc.Sum(turned) == own {
			t.Errorf("P10.2: of %d bytes the one at %d, turned by %#02x, isn't seen", len(b), i, by)
		}
		if parts := crc.Sum(turned[:i], turned[i:]); parts == own {
			t.Errorf("P10.2: of %d bytes, parted at %d, the one there, turned by %#02x, isn't seen", len(b), i, by)
		}
	}
}

// TestTurned: a byte of few bytes, wherever it is.
func TestTurned(t *testing.T) {
	d := thrown(6)
	for _, n := range []int{1, 2, 3, 9, 40, 44} {
		for _, b := range [][]byte{all(n, 0), all(n, 255), d.list(n)} {
			for i := range b {
				turnsAt(t, b, i)
			}
		}
	}
}

// TestTurnedOfMany: a byte at the front, in the middle, at the end of many.
func TestTurnedOfMany(t *testing.T) {
	d := thrown(7)
	for _, n := range []int{256, 1200, 4096} {
		for _, b := range [][]byte{all(n, 0), all(n, 255), d.list(n)} {
			for _, i := range []int{0, 1, n / 2, n - 2, n - 1} {
				turnsAt(t, b, i)
			}
		}
	}
}

// TestTurnedWithItsSum: of bytes with their sum behind none may be turned, not one of the sum either, unseen.
func TestTurnedWithItsSum(t *testing.T) {
	d := thrown(8)
	for _, b := range [][]byte{nil, {0}, []byte("123456789"), d.list(40)} {
		whole := append(bytes.Clone(b), halves(crc.Sum(b))...)
		for i := range whole {
			for by := 1; by < 256; by++ {
				turned := bytes.Clone(whole)
				turned[i] ^= byte(by)
				if crc.Sum(turned) == 0 {
					t.Errorf("P10.2: of %x the byte at %d, turned by %#02x, isn't seen", whole, i, by)
				}
			}
		}
	}
}
