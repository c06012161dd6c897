package angle_test

import (
	"encoding/binary"
	"hash/crc32"
	"math"
	"math/big"
	"testing"

	"leadline/angle"
)

// limit: the greatest amount that Atan takes.
const limit = 1 << 40

// bothSigns tells x and -x, one time if it is 0.
func bothSigns(x int64) []int64 {
	if x == 0 {
		return []int64{0}
	}
	return []int64{x, -x}
}

// isBelow tells whether y times c is below x times s.
func isBelow(y, c, x, s int64) bool {
	left := new(big.Int).Mul(big.NewInt(y), big.NewInt(c))
	return left.Cmp(new(big.Int).Mul(big.NewInt(x), big.NewInt(s))) < 0
}

// tangent tells the chapter's Atan of amounts that it takes, word by word.
func tangent(y, x int64) int {
	switch {
	case x == 0 && y == 0:
		return 0
	case x < 0 && y >= 0:
		return 32768 - tangent(y, -x)
	case x < 0:
		return 32768 + tangent(-y, -x)
	case y < 0:
		return (turn - tangent(-y, x)) % turn
	case x == 0:
		return 16384
	}
	a := 0
	for _, part := range []int{8192, 4096, 2048, 1024, 512, 256, 128, 64, 32, 16, 8, 4, 2, 1} {
		if sum := a + part; !isBelow(y, sine((sum+16384)%turn), x, sine(sum)) {
			a = sum
		}
	}
	return a
}

// checkAtan holds Atan(y, x) of amounts that it takes against the chapter.
func checkAtan(t *testing.T, y, x int64) {
	t.Helper()
	got, ok := angle.Atan(y, x)
	if want := tangent(y, x); !ok || int(got) != want {
		t.Errorf("P3.2: Atan(%d, %d): %d, %v instead of %d", y, x, got, ok, want)
	}
}

// pairs tells numbers that come by chance, of all lengths and both signs, up to 2^40.
func pairs() []int64 {
	var l []int64
	for i, v := range chance(4001) {
		v >>= 24 + i%39
		if i%3 == 1 {
			v = -v
		}
		l = append(l, int64(v))
	}
	return l
}

func TestAtanByChance(t *testing.T) {
	l := pairs()
	for i := range len(l) - 1 {
		checkAtan(t, l[i], l[i+1])
	}
}

func TestAtanOfSmall(t *testing.T) {
	for y := int64(-30); y <= 30; y++ {
		for x := int64(-30); x <= 30; x++ {
			checkAtan(t, y, x)
		}
	}
}

// TestAtanOfPowers holds powers of 2 and what is beside them, up to the limit.
func TestAtanOfPowers(t *testing.T) {
	l := []int64{0, limit, limit - 1, 3 << 38}
	for k := 1; k < 40; k += 3 {
		l = append(l, 1<<k, 1<<k+1)
	}
	for _, y := range l {
		for _, x := range l {
			for _, v := range bothSigns(y) {
				for _, u := range bothSigns(x) {
					checkAtan(t, v, u)
				}
			}
		}
	}
}

// TestAtanBackAgain: the sine and cosine of an angle lead back to it, also where they are made greater up to the limit; beside them it is as the chapter says.
func TestAtanBackAgain(t *testing.T) {
	for a := range turn {
		y, x := angle.Sin(uint16(a)), angle.Cos(uint16(a))
		for _, times := range []int64{1, 7, 1 << 25} {
			if got, ok := angle.Atan(y*times, x*times); !ok || int(got) != a {
				t.Errorf("P3.2: Atan(%d, %d): %d, %v instead of %d", y*times, x*times, got, ok, a)
			}
		}
		if a%9 == 0 {
			checkAtan(t, y<<24-1, x<<24)
			checkAtan(t, y<<24+1, x<<24)
		}
	}
}

// TestAtanEdges: of y and x, of y and -x, of -y and -x, of -y and x.
func TestAtanEdges(t *testing.T) {
	for _, a := range []struct {
		y, x int64
		want [4]uint16
	}{
		{0, 0, [4]uint16{}},
		{0, 1, [4]uint16{0, 32768, 32768, 0}},
		{0, limit, [4]uint16{0, 32768, 32768, 0}},
		{1, 0, [4]uint16{16384, 16384, 49152, 49152}},
		{limit, 0, [4]uint16{16384, 16384, 49152, 49152}},
		{1, 1, [4]uint16{8192, 24576, 40960, 57344}},
		{limit, limit, [4]uint16{8192, 24576, 40960, 57344}},
		{1, 2, [4]uint16{4836, 27932, 37604, 60700}},
		{2, 1, [4]uint16{11547, 21221, 44315, 53989}},
		{3, 4, [4]uint16{6712, 26056, 39480, 58824}},
		{4, 3, [4]uint16{9671, 23097, 42439, 55865}},
		{1, limit, [4]uint16{0, 32768, 32768, 0}}, // less than nought's next, round the turn
		{limit, 1, [4]uint16{16383, 16385, 49151, 49153}},
		{limit - 1, limit, [4]uint16{8191, 24577, 40959, 57345}},
		{limit, limit - 1, [4]uint16{8192, 24576, 40960, 57344}},
		{1, 3, [4]uint16{3356, 29412, 36124, 62180}},
		{1, 10922, [4]uint16{1, 32767, 32769, 65535}}, // Sin(1) is 3, Cos(1) 32767
		{1, 10923, [4]uint16{0, 32768, 32768, 0}},
		{10922, 1, [4]uint16{16382, 16386, 49150, 49154}},
		{10923, 1, [4]uint16{16383, 16385, 49151, 49153}},
		{1, 1000, [4]uint16{10, 32758, 32778, 65526}},
		{1000, 1, [4]uint16{16373, 16395, 49141, 49163}},
		{577, 1000, [4]uint16{5459, 27309, 38227, 60077}},
		{1000, 577, [4]uint16{10924, 21844, 43692, 54612}},
	} {
		for i, p := range [4][2]int64{{a.y, a.x}, {a.y, -a.x}, {-a.y, -a.x}, {-a.y, a.x}} {
			if got, ok := angle.Atan(p[0], p[1]); !ok || got != a.want[i] {
				t.Errorf("P3.2: Atan(%d, %d): %d, %v instead of %d", p[0], p[1], got, ok, a.want[i])
			}
		}
	}
}

// TestAtanTooFar: one amount above the limit suffices, whatever the other one is.
func TestAtanTooFar(t *testing.T) {
	near := []int64{0, 1, -1, 1 << 20, limit, -limit}
	far := []int64{limit + 1, -limit - 1, 1 << 41, -1 << 41, 1 << 62, -1 << 62, math.MaxInt64, math.MinInt64 + 1, math.MinInt64}
	check := func(y, x int64) {
		if got, ok := angle.Atan(y, x); got != 0 || ok {
			t.Errorf("P3.2: Atan(%d, %d): %d, %v instead of 0, false", y, x, got, ok)
		}
	}
	for _, v := range far {
		for _, u := range near {
			check(v, u)
			check(u, v)
		}
		for _, u := range far {
			check(v, u)
		}
	}
}

// TestAtanIsATangent holds what the chapter's rule is meant for: the angle from x towards y, a few parts off at most.
func TestAtanIsATangent(t *testing.T) {
	l := pairs()
	for i := range len(l) - 1 {
		y, x := l[i], l[i+1]
		if y == 0 && x == 0 {
			continue
		}
		got, _ := angle.Atan(y, x)
		off := math.Remainder(float64(got)-math.Atan2(float64(y), float64(x))*turn/2/math.Pi, turn)
		if math.Abs(off) > 4 {
			t.Errorf("P3.2: Atan(%d, %d): %d is %v off", y, x, got, off)
		}
	}
}

// TestSameAngles holds the sum of many angles' bytes against what another program reckoned.
func TestSameAngles(t *testing.T) {
	var some, grid []byte
	l := pairs()
	for i := range len(l) - 1 {
		a, _ := angle.Atan(l[i], l[i+1])
		some = binary.BigEndian.AppendUint16(some, a)
	}
	for y := int64(-50); y <= 50; y++ {
		for x := int64(-50); x <= 50; x++ {
			a, _ := angle.Atan(y, x)
			grid = binary.BigEndian.AppendUint16(grid, a)
		}
	}
	if got := crc32.ChecksumIEEE(some); got != 0x3abb8677 {
		t.Errorf("P3.3: Atan by chance: %#x", got)
	}
	if got := crc32.ChecksumIEEE(grid); got != 0x68b01fbc {
		t.Errorf("P3.3: Atan of small numbers: %#x", got)
	}
}
