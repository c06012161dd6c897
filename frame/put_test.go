package frame_test

import (
	"bytes"
	"testing"

	"leadline/api"
	"leadline/crc"
	"leadline/frame"
)

// putIs holds Put of b against a frame.
func putIs(t *testing.T, b, want []byte) {
	t.Helper()
	if got, ok := frame.Put(b); !ok || !bytes.Equal(got, want) {
		t.Errorf("P11.1: Put(%x): %x, %v instead of %x", b, got, ok, want)
	}
}

// TestPutKnown: frames that another program made.
func TestPutKnown(t *testing.T) {
	for _, l := range [][2]string{
		{"41", "aa55014176db"},
		{"00", "aa5501002e3e"},
		{"313233343536373839", "aa5509313233343536373839f5f4"},
		{"aa", "aa5501aa3a9e"},
		{"55", "aa550155246e"},
		{"aa55", "aa5502aa555a19"},
		{"27cb", "aa550227cb55aa"},
		{"3938", "aa55023938aaaa"},
		{"a304", "aa5502a304aa55"},
		{"c1b2", "aa5502c1b20000"},
		{"15", "aa5501156caa"},
	} {
		putIs(t, of(l[0]), of(l[1]))
	}
	putIs(t, ramp(40), joined(of("aa5528"), ramp(40), of("70f1")))
	putIs(t, all(40, 0xff), joined(of("aa5528"), all(40, 0xff), of("96e1")))
	putIs(t, all(40, 0), joined(of("aa5528"), all(40, 0), of("f15e")))
}

// TestPutParts: each part of a frame stands where it is promised, of each length that there may be.
func TestPutParts(t *testing.T) {
	d := thrown(1)
	for n := 1; n <= api.MaxFrame; n++ {
		for range 20 {
			b := d.list(n)
			putIs(t, b, framed(b))
			f, _ := frame.Put(b)
			if len(f) != n+around {
				t.Fatalf("P11.1: Put(%x): %d bytes", b, len(f))
			}
			sum := crc.Sum([]byte{byte(n)}, b)
			if f[0] != 0xaa || f[1] != 0x55 || int(f[2]) != n || !bytes.Equal(f[3:n+3], b) || f[n+3] != byte(sum>>8) || f[n+4] != byte(sum) {
				t.Errorf("P11.1: Put(%x): %x, sum %04x", b, f, sum)
			}
			if crc.Sum(f[2:]) != 0 {
				t.Errorf("P11.1: Put(%x): %x, with its sum %04x", b, f, crc.Sum(f[2:]))
			}
		}
	}
}

// TestPutNone: payloads of no byte, and of more than MaxFrame, have no frame.
func TestPutNone(t *testing.T) {
	for _, b := range [][]byte{nil, {}, all(41, 7), all(42, 0), all(85, 1), all(255, 2), all(256, 3), all(257, 4), all(296, 5), all(297, 6), all(65536+5, 8), all(1<<20, 9)} {
		if got, ok := frame.Put(b); ok || got != nil {
			t.Errorf("P11.1: Put of %d bytes: %x, %v", len(b), got, ok)
		}
	}
	for _, n := range []int{1, 2, 39, 40} {
		if got, ok := frame.Put(all(n, 7)); !ok || len(got) != n+around {
			t.Errorf("P11.1: Put of %d bytes: %x, %v", n, got, ok)
		}
	}
}

// TestPutFed: the chapter's example, of payloads of all kinds.
func TestPutFed(t *testing.T) {
	d := thrown(2)
	l := [][]byte{of("aa"), of("55"), of("aa55"), of("aa5501"), of("aa55014176db"), all(40, 0xaa), all(40, 0x55), all(20, 0), framed(framed(ramp(30))), of("27cb"), of("3938"), of("a304"), of("15")}
	for n := 1; n <= api.MaxFrame; n++ {
		l = append(l, d.list(n), d.rough(n))
	}
	for _, b := range l {
		f, _ := frame.Put(b)
		feedIs(t, f, 0, 0, b)
	}
}
