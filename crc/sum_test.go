package crc_test

import (
	"bytes"
	"slices"
	"testing"

	"leadline/crc"
)

// TestSumKnown holds what another program reckoned, the chapter's example among them.
func TestSumKnown(t *testing.T) {
	for _, x := range []struct {
		b    []byte
		want uint16
	}{
		{[]byte("123456789"), 0x29b1}, {[]byte("12345678"), 0xa12b}, {[]byte("\t123456789"), 0xf5f4},
		{[]byte("A"), 0xb915}, {[]byte("AB"), 0x4b74}, {[]byte("leadline"), 0xead2},
		{[]byte{0xaa, 0x55}, 0xe5ea}, {[]byte{0x55, 0xaa}, 0xf8e5},
		{[]byte{1}, 0xf1d1}, {[]byte{2}, 0xc1b2}, {[]byte{0x0f}, 0x101f}, {[]byte{0x10}, 0xf3c1}, {[]byte{0x55}, 0xeba0},
		{[]byte{0x7f}, 0x6e88}, {[]byte{0x80}, 0x7078}, {[]byte{0xaa}, 0xf550}, {[]byte{0xfe}, 0xef21},
		{all(1, 0), 0xe1f0}, {all(2, 0), 0x1d0f}, {all(3, 0), 0xcc9c}, {all(4, 0), 0x84c0}, {all(7, 0), 0xf1ce}, {all(8, 0), 0x313e},
		{all(40, 0), 0x85d9}, {all(255, 0), 0xe6dc}, {all(256, 0), 0x41e8}, {all(4096, 0), 0xefdf},
		{all(1, 255), 0xff00}, {all(2, 255), 0}, {all(3, 255), 0x1ef0}, {all(4, 255), 0x1d0f}, {all(7, 255), 0xc360}, {all(8, 255), 0x97df},
		{all(40, 255), 0xe266}, {all(255, 255), 0x3cb2}, {all(256, 255), 0x5b2f}, {all(4096, 255), 0x0fe1},
		{each(256, func(i int) int { return i }), 0x3fbd},
		{each(256, func(i int) int { return 255 - i }), 0x257a},
		{each(4096, func(i int) int { return 7 * i }), 0x3a6f},
	} {
		sumIs(t, x.want, x.b)
		check(t, x.b)
	}
}

// TestSumOfNothing: no parts at all, and parts without bytes.
func TestSumOfNothing(t *testing.T) {
	for _, l := range [][][]byte{nil, {}, {nil}, {{}}, {nil, nil}, {nil, {}, nil}, {{}, nil, {}}, {all(9, 9)[:0]}, make([][]byte, 1000)} {
		sumIs(t, none, l...)
	}
	sumIs(t, none)
	sumIs(t, none, nil)
}

// TestSumOfOneByte: each byte has a sum of its own, that of More from 0xffff on.
func TestSumOfOneByte(t *testing.T) {
	told := map[uint16]int{}
	for b := range 256 {
		sum := crc.Sum([]byte{byte(b)})
		check(t, []byte{byte(b)})
		sumIs(t, crc.More(none, byte(b)), []byte{byte(b)})
		if other, ok := told[sum]; ok {
			t.Errorf("P10.2: %#02x and %#02x have one sum", other, b)
		}
		told[sum] = b
	}
}

// TestSumOfTwoBytes: all of them, each with a sum of its own: so there is no sum that a byte can't be put behind.
func TestSumOfTwoBytes(t *testing.T) {
	var told [sums]bool
	for v := range sums {
		l := halves(uint16(v))
		check(t, l)
		sum := crc.Sum(l)
		if told[sum] {
			t.Errorf("P10.2: %x: %#04x is the sum of two others too", l, sum)
		}
		told[sum] = true
		sumIs(t, crc.More(sum, 0x5a), l, []byte{0x5a})
	}
}

func TestSumByChance(t *testing.T) {
	d := thrown(1)
	for n := range 300 {
		b := d.list(n)
		check(t, b)
		sumIs(t, divided(none, b), d.parted(b)...)
	}
	for _, n := range []int{1000, 1200, 4095, 4096, 4097, 65536, 1 << 20} {
		b := d.list(n)
		if want := divided(none, b); crc.Sum(b) != want || crc.Sum(d.parted(b)...) != want {
			t.Errorf("P10.1: Sum of %d bytes: %#04x, in parts %#04x instead of %#04x", n, crc.Sum(b), crc.Sum(d.parted(b)...), want)
		}
	}
}

// TestSumAndMore: behind a sum a byte more is what More tells.
func TestSumAndMore(t *testing.T) {
	b := thrown(2).list(400)
	sum := crc.Sum()
	for i := range b {
		sumIs(t, sum, b[:i])
		sum = crc.More(sum, b[i])
	}
	sumIs(t, sum, b)
}

// TestParts: the same bytes have the same sum wherever they are parted, and parts without bytes change nothing.
func TestParts(t *testing.T) {
	for _, b := range [][]byte{[]byte("123456789"), all(12, 0), all(12, 255), thrown(3).list(40)} {
		want := divided(none, b)
		for i := range len(b) + 1 {
			front, end := b[:i], b[i:]
			for _, no := range [][]byte{nil, {}} {
				sumIs(t, want, front, end)
				sumIs(t, want, no, front, end)
				sumIs(t, want, front, no, end)
				sumIs(t, want, front, end, no)
				sumIs(t, want, no, no, front, no, no, end, no, no)
			}
			for k := range len(end) + 1 {
				sumIs(t, want, front, end[:k], end[k:])
			}
		}
		sumIs(t, want, slices.Collect(slices.Chunk(b, 1))...)
		sumIs(t, want, slices.Collect(slices.Chunk(b, 5))...)
	}
}

// TestOrder: parts are put one behind another as they are handed in.
func TestOrder(t *testing.T) {
	front, end := []byte("1234"), []byte("56789")
	sumIs(t, 0x29b1, front, end)
	sumIs(t, divided(none, []byte("567891234")), end, front)
	if crc.Sum(front, end) == crc.Sum(end, front) {
		t.Error("P10.1: parts in another order have the same sum")
	}
}

// TestNoughts: noughts at the front are seen, and how many there are; at the end too.
func TestNoughts(t *testing.T) {
	told := map[uint16]int{}
	noughts := all(32767, 0) // behind so many the sums begin anew
	sum := crc.Sum()
	for n := range noughts {
		if other, ok := told[sum]; ok {
			t.Fatalf("P10.1: %d noughts and %d have the sum %#04x", other, n, sum)
		}
		told[sum] = n
		sum = crc.More(sum, 0)
	}
	sumIs(t, none, noughts)
	for _, b := range [][]byte{{1}, []byte("123456789"), thrown(4).list(40)} {
		for _, n := range []int{1, 2, 3, 8, 40, 255, 256, 4000} {
			sumIs(t, divided(none, append(all(n, 0), b...)), noughts[:n], b)
			sumIs(t, divided(none, append(bytes.Clone(b), noughts[:n]...)), b, noughts[:n])
			if own := crc.Sum(b); crc.Sum(noughts[:n], b) == own || crc.Sum(b, noughts[:n]) == own {
				t.Errorf("P10.1: %x with %d noughts has its own sum", b, n)
			}
		}
	}
}

// TestSumBehindItsBytes: bytes with their sum behind, the upper byte first, have the sum 0; by it they are known to be whole.
func TestSumBehindItsBytes(t *testing.T) {
	d := thrown(5)
	l := [][]byte{nil, {0}, {255}, all(40, 0), all(40, 255), []byte("123456789"), d.list(4096)}
	for n := range 300 {
		l = append(l, d.list(n))
	}
	for _, b := range l {
		own := halves(crc.Sum(b))
		sumIs(t, 0, b, own)
		sumIs(t, 0, b, own[:1], own[1:])
		sumIs(t, 0, append(bytes.Clone(b), own...))
	}
}
