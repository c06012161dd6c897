package frame_test

import (
	"testing"

	"leadline/api"
	"leadline/frame"
)

var (
	one  = []byte("A")         // a payload, and its frame
	two  = []byte("123456789") // another one
	fOne = framed(one)
	fTwo = framed(two)
)

// TestFeedNone: nothing has come, or nothing comes.
func TestFeedNone(t *testing.T) {
	p := frame.New()
	if p.Bad() != 0 || p.Left() != 0 {
		t.Errorf("P11.2: a new one: bad %d, left %d", p.Bad(), p.Left())
	}
	for range 3 {
		if l := append(p.Feed(nil), p.Feed([]byte{})...); len(l) != 0 || p.Bad() != 0 || p.Left() != 0 {
			t.Errorf("P11.2: of nothing: %x, bad %d, left %d", l, p.Bad(), p.Left())
		}
	}
	f := start()
	f.feed(t, of("aa550141"))
	f.feed(t, nil)
	f.feed(t, []byte{})
	f.feed(t, of("76db"))
	f.feed(t, nil)
	if !same(f.told, [][]byte{one}) {
		t.Errorf("P11.2: with nothing between: %x", f.told)
	}
}

// TestFeedFrames: whole frames, one behind another, in order.
func TestFeedFrames(t *testing.T) {
	feedIs(t, of("aa55014176db"), 0, 0, one)
	feedIs(t, joined(fOne, fTwo), 0, 0, one, two)
	feedIs(t, joined(fTwo, fOne, fOne, fTwo), 0, 0, two, one, one, two)
	feedIs(t, joined(fTwo, framed(all(40, 0xaa)), fOne), 0, 0, two, all(40, 0xaa), one)
	var came []byte
	var want [][]byte
	for n := 1; n <= api.MaxFrame; n++ {
		came, want = append(came, framed(ramp(n))...), append(want, ramp(n))
	}
	feedIs(t, came, 0, 0, want...)
}

// TestFeedSums: frames whose sum looks like a frame's beginning, with more behind.
func TestFeedSums(t *testing.T) {
	for _, b := range [][]byte{of("27cb"), of("3938"), of("a304"), of("c1b2"), of("bdf7"), of("15")} {
		feedIs(t, joined(framed(b), framed(b)), 0, 0, b, b)
		feedIs(t, joined(framed(b), of("55014176db")), 0, 0, b)
		feedIs(t, joined(framed(b), of("014176db"), fOne), 0, 0, b, one)
	}
}

// TestFeedOther: bytes with which no frame begins go, and count for nothing.
func TestFeedOther(t *testing.T) {
	for v := range 256 {
		if v == 0xaa {
			continue
		}
		b := []byte{byte(v)}
		feedIs(t, b, 0, 0)
		feedIs(t, joined(b, b, fOne), 0, 0, one)
		feedIs(t, joined(fOne, b), 0, 0, one)
		if v != 0x55 {
			feedIs(t, joined(of("aa"), b), 0, 0)
			feedIs(t, joined(of("aa"), b, fOne), 0, 0, one)
		}
	}
	feedIs(t, of("aa"), 0, 1)
	feedIs(t, of("aaaa"), 0, 1)
	feedIs(t, of("aaaaaa"), 0, 1)
	feedIs(t, of("55aa"), 0, 1)
	feedIs(t, of("55aa55"), 0, 2)
	feedIs(t, of("aa55"), 0, 2)
	feedIs(t, of("aaaa55"), 0, 2)
	feedIs(t, joined(of("aa"), fOne), 0, 0, one)
	feedIs(t, joined(of("aaaa"), fOne, of("aa")), 0, 1, one)
}

// TestFeedLengths: all lengths that a frame may tell; such as no frame has are bad at once.
func TestFeedLengths(t *testing.T) {
	for n := range 256 {
		b := []byte{0xaa, 0x55, byte(n)}
		switch {
		case n >= 1 && n <= 40:
			feedIs(t, b, 0, 3)
		case n == 170: // the length may be a frame's first byte
			feedIs(t, b, 1, 1)
		default:
			feedIs(t, b, 1, 0)
		}
	}
	for _, n := range []int{0, 41, 85, 170, 255} {
		feedIs(t, joined([]byte{0xaa, 0x55, byte(n)}, fOne), 1, 0, one)
		feedIs(t, framed(all(n, 3)), 1, 0)
	}
	feedIs(t, of("aa55aa"), 1, 1)
	feedIs(t, of("aa55aa55"), 1, 2)
	feedIs(t, of("aa55aa55aa55"), 2, 2)
	feedIs(t, of("aa55aa55014176db"), 1, 0, one)
	feedIs(t, of("aa5555"), 1, 0)
	feedIs(t, of("aa550029"), 1, 0)
}

// TestFeedSum: another sum, in each of its bits, makes a frame bad; so does each bit of what it is of.
func TestFeedSum(t *testing.T) {
	for bit := range 16 {
		f := framed(two)
		f[len(f)-2+bit/8] ^= 1 << (bit % 8)
		feedIs(t, f, 1, parsed(f).left)
		feedIs(t, joined(f, fOne), 1, 0, one)
	}
	for i := range two {
		for bit := range 8 {
			f := framed(two)
			f[3+i] ^= 1 << bit
			feedIs(t, joined(f, fOne), 1, 0, one)
		}
	}
	swapped := framed(two)
	n := len(swapped)
	swapped[n-1], swapped[n-2] = swapped[n-2], swapped[n-1]
	feedIs(t, swapped, 1, 0)
	feedIs(t, of("aa5501410000"), 1, 0)
	feedIs(t, joined(of("aa550131"), summed(of("31"))), 1, 0) // the sum is of the length, too
	feedIs(t, joined(of("aa550131"), summed(of("aa550131"))), 1, 0)
}

// TestFeedBad: bad ones count one by one, each by itself.
func TestFeedBad(t *testing.T) {
	for n := range 20 {
		var came []byte
		for range n {
			came = append(came, turned(fTwo, 1)...)
		}
		feedIs(t, joined(came, fOne), n, 0, one)
		feedIs(t, joined(fOne, came, fOne, came), 2*n, 0, one, one)
	}
	// a bad one goes by its first byte alone: what stands in it may be a whole frame, or a bad one too
	feedIs(t, turned(framed(joined(fOne, fTwo)), 1), 1, 0, one, two)
	feedIs(t, turned(framed(joined(turned(fOne, 1), fTwo)), 2), 2, 0, two)
	feedIs(t, turned(framed(of("aa5500aa5529aa55ff")), 1), 4, 0)
	feedIs(t, turned(framed(turned(framed(turned(framed(two), 1)), 1)), 1), 3, 0)
	feedIs(t, turned(framed(turned(framed(fTwo), 1)), 1), 2, 0, two)
	feedIs(t, framed(framed(framed(two))), 0, 0, framed(fTwo))
	// and what stands at its end may be the beginning of one
	feedIs(t, turned(framed(joined(one, fTwo[:4])), 1), 1, 6)
}

// TestFeedLeft: each beginning of a frame stays, till what is missing comes.
func TestFeedLeft(t *testing.T) {
	for _, b := range [][]byte{one, two, ramp(40), all(40, 0xaa), all(39, 0x55), of("a304"), fTwo} {
		whole := framed(b)
		for n := range whole {
			feedIs(t, whole[:n], 0, n)
			feedIs(t, joined(fOne, whole[:n]), 0, n, one)
			f := start()
			f.feed(t, whole[:n])
			f.feed(t, joined(whole[n:], fOne))
			if !same(f.told, [][]byte{b, one}) || f.p.Left() != 0 || f.p.Bad() != 0 {
				t.Errorf("P11.2: of %x and what was missing: %x, bad %d, left %d", whole[:n], f.told, f.p.Bad(), f.p.Left())
			}
		}
	}
}
