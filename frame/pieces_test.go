package frame_test

import (
	"testing"

	"leadline/frame"
)

// pieces feeds s in pieces of n bytes each.
func pieces(t *testing.T, s []byte, n int) {
	t.Helper()
	f := start()
	for len(s) > 0 {
		k := min(n, len(s))
		f.feed(t, s[:k])
		s = s[k:]
	}
}

// TestPieces: the same bytes in pieces of each size tell the same, behind each piece.
func TestPieces(t *testing.T) {
	d := thrown(3)
	for range 12 {
		s := d.stream(6)
		for n := 1; n <= len(s); n++ {
			pieces(t, s, n)
		}
	}
	s := joined(of("aaaa55aa55"), turned(framed(joined(fOne, fTwo[:5])), 2), fTwo, of("aa55280102"), framed(ramp(40)), of("aa55aa"), fOne, of("aa"))
	for n := 1; n <= len(s); n++ {
		pieces(t, s, n)
	}
}

// TestPiecesByChance: pieces of sizes by chance, nil and empty ones between.
func TestPiecesByChance(t *testing.T) {
	d := thrown(4)
	for range 300 {
		f := start()
		for s := d.stream(1 + d.IntN(12)); len(s) > 0; {
			k := d.IntN(min(len(s), 60) + 1)
			f.feed(t, s[:k])
			s = s[k:]
			if d.IntN(4) == 0 {
				f.feed(t, nil)
				f.feed(t, []byte{})
			}
		}
	}
}

// TestRough: many beginnings, lengths and sums that are none, one by one.
func TestRough(t *testing.T) {
	d := thrown(5)
	for range 300 {
		pieces(t, d.rough(d.IntN(150)), 1+d.IntN(9))
	}
}

// TestShort: all that 7 bytes of those that matter may be, at once and byte by byte.
func TestShort(t *testing.T) {
	matter := []byte{0xaa, 0x55, 0, 1, 2}
	for i := range 5 * 5 * 5 * 5 * 5 * 5 * 5 {
		var s []byte
		for k := i; len(s) < 7; k /= 5 {
			s = append(s, matter[k%5])
		}
		want := parsed(s)
		feedIs(t, s, want.bad, want.left, want.told...)
		if i%10 == 0 {
			pieces(t, s, 1)
		}
	}
}

// TestApart: two parsers know nothing of one another.
func TestApart(t *testing.T) {
	a, b := start(), start()
	a.feed(t, fTwo[:6])
	b.feed(t, fOne[:4])
	a.feed(t, turned(fTwo, 1)[6:])
	b.feed(t, fOne[4:])
	a.feed(t, of("aa"))
	if a.p.Bad() != 1 || b.p.Bad() != 0 || a.p.Left() != 1 || b.p.Left() != 0 {
		t.Errorf("P11.2: bad %d and %d, left %d and %d", a.p.Bad(), b.p.Bad(), a.p.Left(), b.p.Left())
	}
}

// TestAsked: asking changes nothing.
func TestAsked(t *testing.T) {
	p := frame.New()
	p.Feed(joined(turned(fOne, 1), fOne, of("aa5502")))
	for range 5 {
		if p.Bad() != 1 || p.Left() != 3 {
			t.Errorf("P11.2: bad %d, left %d instead of 1, 3", p.Bad(), p.Left())
		}
	}
}

// TestLong: bytes without end leave no more than a frame that isn't whole.
func TestLong(t *testing.T) {
	d := thrown(6)
	p := frame.New()
	var came []byte
	told, most := 0, 0
	for range 400 {
		s := d.stream(20)
		came, told = append(came, s...), told+len(p.Feed(s))
		most = max(most, p.Left())
	}
	want := parsed(came)
	if told != len(want.told) || p.Bad() != want.bad || p.Left() != want.left {
		t.Errorf("P11.2: %d, bad %d, left %d instead of %d, bad %d, left %d", told, p.Bad(), p.Left(), len(want.told), want.bad, want.left)
	}
	if most >= longest || told < 1000 || want.bad < 500 {
		t.Errorf("P11.2: left %d at most; %d frames, %d bad ones", most, told, want.bad)
	}
	pieces(t, came[:3000], 1)
}
