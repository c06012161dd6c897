package angle_test

import (
	"encoding/binary"
	"hash/crc32"
	"math"
	"math/big"
	"testing"

	"leadline/angle"
)

// turn: all angles.
const turn = 65536

// chance tells n numbers that come by chance, always the same ones.
func chance(n int) []uint64 {
	seed := uint64(5)
	var l []uint64
	for range n {
		seed = seed*6364136223846793005 + 1442695040888963407
		l = append(l, seed>>33^seed<<31)
	}
	return l
}

// down tells a b over 2^14, towards the lower one.
func down(a, b int64) int64 {
	product := new(big.Int).Mul(big.NewInt(a), big.NewInt(b))
	return product.Rsh(product, 14).Int64()
}

// quarterSine tells the chapter's s(x), a product at a time.
func quarterSine(x int64) int64 {
	t := down(x, x)
	return down(x, 51472-down(t, 21024-down(t, 2320)))
}

// sine tells the chapter's Sin.
func sine(a int) int64 {
	x := int64(a % 16384)
	return []int64{quarterSine(x), quarterSine(16384 - x), -quarterSine(x), -quarterSine(16384 - x)}[a/16384]
}

func TestSinCosOfAll(t *testing.T) {
	for a := range turn {
		if got, want := angle.Sin(uint16(a)), sine(a); got != want {
			t.Errorf("P3.1: Sin(%d): %d instead of %d", a, got, want)
		}
		if got, want := angle.Cos(uint16(a)), sine((a+16384)%turn); got != want {
			t.Errorf("P3.1: Cos(%d): %d instead of %d", a, got, want)
		}
	}
}

// TestSinCosEdges holds the quarters' beginnings and ends, what is beside them, and some angles between.
func TestSinCosEdges(t *testing.T) {
	for _, x := range []struct {
		a        uint16
		sin, cos int64
	}{
		{0, 0, 32768}, {1, 3, 32767}, {2, 6, 32767}, {3, 9, 32767}, {100, 314, 32766},
		{4096, 12542, 30285}, {5461, 16387, 28391}, {8191, 23178, 23182}, {8192, 23180, 23180}, {8193, 23182, 23178},
		{10923, 28391, 16387}, {12288, 30285, 12542}, {16382, 32767, 6}, {16383, 32767, 3},
		{16384, 32768, 0}, {16385, 32767, -3}, {16386, 32767, -6}, {20000, 30828, -11135}, {24576, 23180, -23180}, {32767, 3, -32767},
		{32768, 0, -32768}, {32769, -3, -32767}, {40000, -20950, -25213}, {40960, -23180, -23180}, {49151, -32767, -3},
		{49152, -32768, 0}, {49153, -32767, 3}, {57344, -23180, 23180}, {60000, -16591, 28273}, {65534, -6, 32767}, {65535, -3, 32767},
	} {
		if got := angle.Sin(x.a); got != x.sin {
			t.Errorf("P3.1: Sin(%d): %d instead of %d", x.a, got, x.sin)
		}
		if got := angle.Cos(x.a); got != x.cos {
			t.Errorf("P3.1: Cos(%d): %d instead of %d", x.a, got, x.cos)
		}
	}
}

// TestSinIsASine holds what the chapter's rule is meant for: the sine of a turn of 65536, a two-thousandth off at most.
func TestSinIsASine(t *testing.T) {
	for a := range turn {
		round := float64(a) * 2 * math.Pi / turn
		if off := math.Abs(float64(angle.Sin(uint16(a))) - 32768*math.Sin(round)); off > 16 {
			t.Errorf("P3.1: Sin(%d) is %v off", a, off)
		}
		if off := math.Abs(float64(angle.Cos(uint16(a))) - 32768*math.Cos(round)); off > 16 {
			t.Errorf("P3.1: Cos(%d) is %v off", a, off)
		}
	}
}

// TestQuarters: the quarters are one another's pictures, round the turn.
func TestQuarters(t *testing.T) {
	for i := range turn {
		a := uint16(i)
		sin, cos := angle.Sin(a), angle.Cos(a)
		for _, x := range []struct {
			name      string
			got, want int64
		}{
			{"Sin(-a)", angle.Sin(-a), -sin},
			{"Sin(half + a)", angle.Sin(a + 32768), -sin},
			{"Sin(half - a)", angle.Sin(32768 - a), sin},
			{"Sin(quarter + a)", angle.Sin(a + 16384), cos},
			{"Cos(-a)", angle.Cos(-a), cos},
			{"Cos(half + a)", angle.Cos(a + 32768), -cos},
			{"Cos(half - a)", angle.Cos(32768 - a), -cos},
			{"Cos(quarter + a)", angle.Cos(a + 16384), -sin},
		} {
			if x.got != x.want {
				t.Errorf("P3.1: of a %d %s: %d instead of %d", a, x.name, x.got, x.want)
			}
		}
	}
}

func TestDiffEdges(t *testing.T) {
	for _, x := range []struct {
		a, b uint16
		want int
	}{
		{0, 0, 0}, {5, 3, 2}, {3, 5, -2}, {65535, 65535, 0},
		{0, 65535, 1}, {65535, 0, -1}, {1, 65535, 2}, {65535, 1, -2}, {10, 65530, 16}, {65530, 10, -16},
		{32767, 0, 32767}, {32768, 0, -32768}, {32769, 0, -32767},
		{0, 32767, -32767}, {0, 32768, -32768}, {0, 32769, 32767},
		{65535, 32768, 32767}, {65535, 32767, -32768}, {65535, 32766, -32767},
		{32768, 65535, -32767}, {32767, 65535, -32768}, {32766, 65535, 32767},
		{16384, 49152, -32768}, {49152, 16384, -32768}, {16383, 49152, 32767}, {49151, 16384, 32767}, {49153, 16384, -32767},
	} {
		if got := angle.Diff(x.a, x.b); got != x.want {
			t.Errorf("P3.2: Diff(%d, %d): %d instead of %d", x.a, x.b, got, x.want)
		}
	}
}

// TestDiffOfAll: behind b each difference from -32768 to 32767 leads, round the turn, to another angle, and to all of them.
func TestDiffOfAll(t *testing.T) {
	for _, b := range []int{0, 1, 2, 255, 12345, 16384, 32766, 32767, 32768, 32769, 49152, 54321, 65534, 65535} {
		for d := -32768; d <= 32767; d++ {
			a := (b + d + turn) % turn
			if got := angle.Diff(uint16(a), uint16(b)); got != d {
				t.Errorf("P3.2: Diff(%d, %d): %d instead of %d", a, b, got, d)
			}
		}
	}
}

// TestSameSines holds the sum of all sines' and all cosines' bytes against what another program reckoned.
func TestSameSines(t *testing.T) {
	for _, x := range []struct {
		name string
		call func(uint16) int64
		want uint32
	}{{"Sin", angle.Sin, 0xb76d450d}, {"Cos", angle.Cos, 0x17c70903}} {
		var l []byte
		for a := range turn {
			l = binary.BigEndian.AppendUint64(l, uint64(x.call(uint16(a))))
		}
		if got := crc32.ChecksumIEEE(l); got != x.want {
			t.Errorf("P3.3: %s of all: %#x instead of %#x", x.name, got, x.want)
		}
	}
}
