package frame_test

import (
	"bytes"
	"testing"

	"leadline/frame"
)

// roomy tells b with spare room behind it, and that with the room.
func roomy(b []byte) ([]byte, []byte) {
	room := append(bytes.Clone(b), all(60, 0x91)...)
	return room[:len(b)], room
}

// TestPutChangesNothing: the payload and the room behind it stay; the frame is new memory.
func TestPutChangesNothing(t *testing.T) {
	for n := range 60 {
		own, room := roomy(ramp(n))
		was := bytes.Clone(room)
		f, _ := frame.Put(own)
		again, _ := frame.Put(own)
		for i := range f {
			f[i] = 0
		}
		if !bytes.Equal(room, was) {
			t.Errorf("P11.1: what was handed in is %x", room)
		}
		if n >= 1 && n <= 40 && !bytes.Equal(again, framed(ramp(n))) {
			t.Errorf("P11.1: Put(%x) became %x", ramp(n), again)
		}
		if n >= 1 && n <= 40 {
			clear(own)
			if !bytes.Equal(again, framed(ramp(n))) {
				t.Errorf("P11.1: Put(%x) hangs on what was handed in", ramp(n))
			}
		}
	}
}

// TestFeedChangesNothing: bytes that are fed, and the room behind them, stay as they were.
func TestFeedChangesNothing(t *testing.T) {
	d := thrown(8)
	for range 100 {
		p := frame.New()
		for range 8 {
			own, room := roomy(d.stream(d.IntN(5)))
			was := bytes.Clone(room)
			p.Feed(own)
			p.Feed(nil)
			p.Feed(own[:len(own)/2])
			if !bytes.Equal(room, was) {
				t.Errorf("P11.2: what was handed in is %x instead of %x", room, was)
			}
		}
	}
}

// TestFeedKeepsNothing: what is left is the parser's own, whatever becomes of what was handed in.
func TestFeedKeepsNothing(t *testing.T) {
	whole := framed(ramp(30))
	for n := range whole {
		p := frame.New()
		own, room := roomy(whole[:n])
		p.Feed(own)
		clear(room)
		rest, room := roomy(whole[n:])
		got := p.Feed(rest)
		clear(room)
		if !same(got, [][]byte{ramp(30)}) {
			t.Errorf("P11.2: cut at %d: %x", n, got)
		}
	}
}

// TestToldStays: what was told stays when more is fed, and when other payloads or what was handed in are changed or grow.
func TestToldStays(t *testing.T) {
	p := frame.New()
	own, room := roomy(joined(fOne, fTwo, framed(ramp(40)), fOne[:3]))
	first := p.Feed(own)
	clear(room)
	second := p.Feed(joined(fOne[3:], fTwo, fTwo[:13]))
	third := p.Feed(joined(fTwo[13:], turned(fTwo, 1), fOne))
	if !same(first, [][]byte{one, two, ramp(40)}) || !same(second, [][]byte{one, two}) || !same(third, [][]byte{two, one}) {
		t.Errorf("P11.2: told %x, %x, %x", first, second, third)
	}
	clear(first[1])
	_ = append(first[0], all(30, 0x77)...)
	_ = append(second[0], all(30, 0x77)...)
	if !same(first, [][]byte{one, all(9, 0), ramp(40)}) || !same(second, [][]byte{one, two}) {
		t.Errorf("P11.2: behind a change of others: %x, %x", first, second)
	}
	_ = append(third[:1], all(1, 0x77))
	if l := p.Feed(fTwo); !same(l, [][]byte{two}) || p.Bad() != 1 || p.Left() != 0 {
		t.Errorf("P11.2: behind a change of what was told: %x, bad %d, left %d", l, p.Bad(), p.Left())
	}
}

// TestToldIsNotLeft: who changes what was told, and the room behind it, changes nothing of what is left.
func TestToldIsNotLeft(t *testing.T) {
	for n := range fTwo {
		p := frame.New()
		for _, l := range p.Feed(joined(fTwo, fOne, fTwo[:n])) {
			clear(l[:cap(l)])
		}
		if l := p.Feed(fTwo[n:]); !same(l, [][]byte{two}) {
			t.Errorf("P11.2: cut at %d: %x", n, l)
		}
	}
}
