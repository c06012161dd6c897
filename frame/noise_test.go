package frame_test

import (
	"testing"

	"leadline/api"
)

// behindNoise holds that a frame is told behind noise, when as much has come as noise may have taken for a frame of its own.
func behindNoise(t *testing.T, noise, b []byte) {
	t.Helper()
	f := start()
	f.feed(t, noise)
	f.feed(t, framed(b))
	f.feed(t, all(longest, 0))
	for _, l := range f.told {
		if same([][]byte{l}, [][]byte{b}) {
			return
		}
	}
	t.Errorf("P11.3: %x is hidden by %x: %x", b, noise, f.told)
}

// TestHidden: noise of each length, such as frames begin with among it.
func TestHidden(t *testing.T) {
	d := thrown(7)
	for n := range 200 {
		for range 10 {
			b := d.list(1 + d.IntN(api.MaxFrame))
			behindNoise(t, d.list(n), b)
			behindNoise(t, d.rough(n), b)
			behindNoise(t, all(n, 0xaa), b)
			behindNoise(t, all(n, 0x55), b)
		}
	}
}

// TestHiddenByLengths: a beginning whose length, whatever it is, reaches into the frame behind it.
func TestHiddenByLengths(t *testing.T) {
	for n := range 256 {
		for _, b := range [][]byte{one, two, ramp(40), fOne, all(40, 0xaa)} {
			behindNoise(t, []byte{0xaa, 0x55, byte(n)}, b)
			behindNoise(t, []byte{0xaa, 0x55, byte(n), 0xaa}, b)
			behindNoise(t, []byte{0xaa, 0x55, byte(n), 0xaa, 0x55}, b)
			behindNoise(t, []byte{0xaa, 0x55, byte(n), 0xaa, 0x55, byte(n)}, b)
		}
	}
}

// TestHiddenByCut: a frame that was cut at each place, or from which bytes are gone, ahead of a whole one.
func TestHiddenByCut(t *testing.T) {
	for _, c := range [][]byte{fOne, fTwo, framed(ramp(40)), framed(all(40, 0xaa)), framed(fTwo)} {
		for n := range c {
			for _, b := range [][]byte{one, two, ramp(40), fTwo} {
				behindNoise(t, c[:n], b)
				behindNoise(t, c[n+1:], b)
				behindNoise(t, joined(c[:n], c[n+1:]), b)
				behindNoise(t, joined(c[:n], c[:n]), b)
			}
		}
	}
}

// TestBetween: noise ahead of frames, between and behind them.
func TestBetween(t *testing.T) {
	feedIs(t, joined(of("0102"), fOne, of("03"), fTwo, of("0405")), 0, 0, one, two)
	feedIs(t, joined(of("55aa"), fOne, of("aaaa"), fTwo, of("aa")), 0, 1, one, two)
	feedIs(t, joined(of("aa5500"), fOne, of("aa5529"), fTwo, of("aa55ff")), 3, 0, one, two)
	feedIs(t, joined(turned(fOne, 1), fTwo, turned(fTwo, 2), fOne, turned(fOne, 3)), 3, 0, two, one)
	feedIs(t, joined(fTwo[:9], fOne, fTwo[:12], fTwo), 2, 0, one, two)
	// the cut one may yet be whole, till as many bytes have come as it tells
	feedIs(t, joined(of("aa5514"), fOne, fOne), 0, 15)
	feedIs(t, joined(of("aa5514"), fOne, fOne, all(9, 0)), 0, 24)
	feedIs(t, joined(of("aa5514"), fOne, fOne, all(10, 0)), 1, 0, one, one)
}
