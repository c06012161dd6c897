package fx_test

import (
	"math"
	"math/big"
	"testing"

	"leadline/fx"
)

const (
	least = math.MinInt64
	most  = math.MaxInt64
)

// power tells 2 to the k.
func power(k uint) *big.Int {
	return new(big.Int).Lsh(big.NewInt(1), k)
}

// chance tells n numbers that come by chance, always the same ones.
func chance(n int) []uint64 {
	seed := uint64(7)
	var l []uint64
	for range n {
		seed = seed*6364136223846793005 + 1442695040888963407
		l = append(l, seed>>33^seed<<31)
	}
	return l
}

// numbers tells numbers of all lengths: those about nought, about powers of 2, about int64's edges, and some by chance.
func numbers() []int64 {
	l := []int64{least, least + 1, least + 2, most, most - 1, most - 2}
	for v := int64(-4); v <= 4; v++ {
		l = append(l, v)
	}
	for _, k := range []uint{15, 31, 32, 47, 61, 62} {
		for d := int64(-1); d <= 1; d++ {
			l = append(l, 1<<k+d, -1<<k+d)
		}
	}
	for i, v := range chance(30) {
		l = append(l, int64(v)>>(2*i))
	}
	return l
}

// check holds an answer against what it should be: the number want, or, if an int64 hasn't it (or none is), false and 0.
func check(t *testing.T, promise string, got int64, ok bool, want *big.Int, of ...int64) {
	t.Helper()
	if want == nil || !want.IsInt64() {
		if ok || got != 0 {
			t.Errorf("%s %d: %d, %v instead of 0, false", promise, of, got, ok)
		}
		return
	}
	if !ok || got != want.Int64() {
		t.Errorf("%s %d: %d, %v instead of %v", promise, of, got, ok, want)
	}
}

func TestAddSubMul(t *testing.T) {
	for _, a := range numbers() {
		x := big.NewInt(a)
		for _, b := range numbers() {
			y := big.NewInt(b)
			got, ok := fx.Add(a, b)
			check(t, "P2.1: Add", got, ok, new(big.Int).Add(x, y), a, b)
			got, ok = fx.Sub(a, b)
			check(t, "P2.1: Sub", got, ok, new(big.Int).Sub(x, y), a, b)
			got, ok = fx.Mul(a, b)
			check(t, "P2.1: Mul", got, ok, new(big.Int).Mul(x, y), a, b)
		}
	}
}

// TestJustFits holds sums, differences and products that just fit beside the next ones, that don't.
func TestJustFits(t *testing.T) {
	const half = 1 << 62
	for _, x := range []struct {
		name       string
		call       func(a, b int64) (int64, bool)
		a, b, want int64
		ok         bool
	}{
		{"Add", fx.Add, most - 1, 1, most, true},
		{"Add", fx.Add, most, 1, 0, false},
		{"Add", fx.Add, 1, most, 0, false},
		{"Add", fx.Add, least + 1, -1, least, true},
		{"Add", fx.Add, least, -1, 0, false},
		{"Add", fx.Add, -1, least, 0, false},
		{"Add", fx.Add, half, half - 1, most, true},
		{"Add", fx.Add, half, half, 0, false},
		{"Add", fx.Add, -half, -half, least, true},
		{"Add", fx.Add, -half, -half - 1, 0, false},
		{"Add", fx.Add, least, least, 0, false}, // round 2 to the 64 it is 0
		{"Add", fx.Add, most, most, 0, false},
		{"Add", fx.Add, least, most, -1, true},
		{"Add", fx.Add, least, 0, least, true},
		{"Sub", fx.Sub, most - 1, -1, most, true},
		{"Sub", fx.Sub, most, -1, 0, false},
		{"Sub", fx.Sub, least + 1, 1, least, true},
		{"Sub", fx.Sub, least, 1, 0, false},
		{"Sub", fx.Sub, -1, least, most, true},
		{"Sub", fx.Sub, 0, least, 0, false},
		{"Sub", fx.Sub, 0, most, -most, true},
		{"Sub", fx.Sub, -1, most, least, true},
		{"Sub", fx.Sub, -2, most, 0, false},
		{"Sub", fx.Sub, least, least, 0, true},
		{"Sub", fx.Sub, most, least, 0, false},
		{"Sub", fx.Sub, least, most, 0, false},
		{"Mul", fx.Mul, 7, -6, -42, true},
		{"Mul", fx.Mul, least, 1, least, true},
		{"Mul", fx.Mul, least, -1, 0, false},
		{"Mul", fx.Mul, -1, least, 0, false},
		{"Mul", fx.Mul, least + 1, -1, most, true},
		{"Mul", fx.Mul, half, -2, least, true},
		{"Mul", fx.Mul, half, 2, 0, false},
		{"Mul", fx.Mul, -half, -2, 0, false},
		{"Mul", fx.Mul, half - 1, 2, most - 1, true},
		{"Mul", fx.Mul, -half - 1, 2, 0, false},
		{"Mul", fx.Mul, 7, most / 7, most, true}, // 2 to the 63, less 1, is a multiple of 7
		{"Mul", fx.Mul, 1 << 32, 1 << 32, 0, false},
		{"Mul", fx.Mul, 1 << 33, 1 << 31, 0, false}, // round 2 to the 64 it is 0
		{"Mul", fx.Mul, 1<<32 + 1, 1 << 32, 0, false},
		{"Mul", fx.Mul, 3037000499, 3037000499, 9223372030926249001, true},
		{"Mul", fx.Mul, 3037000500, 3037000500, 0, false},
		{"Mul", fx.Mul, least, least, 0, false},
		{"Mul", fx.Mul, most, most, 0, false},
		{"Mul", fx.Mul, 0, least, 0, true},
		{"Mul", fx.Mul, least, 0, 0, true},
	} {
		if got, ok := x.call(x.a, x.b); got != x.want || ok != x.ok {
			t.Errorf("P2.1, P2.3: %s(%d, %d): %d, %v", x.name, x.a, x.b, got, ok)
		}
	}
}

// nearest tells what MulDiv promises, if an int64 has it: nil of a c that isn't above 0; else the greatest whole number that isn't above a b over c and a half.
func nearest(a, b, c int64) *big.Int {
	if c <= 0 {
		return nil
	}
	twice := new(big.Int).Mul(big.NewInt(a), big.NewInt(b))
	twice.Lsh(twice, 1)
	under := new(big.Int).Lsh(big.NewInt(c), 1)
	return twice.Div(twice.Add(twice, big.NewInt(c)), under) // math/big's Div is towards the lower one, of what is above 0
}

func TestMulDiv(t *testing.T) {
	l := numbers()
	for _, a := range l {
		for _, b := range l {
			for _, c := range l {
				got, ok := fx.MulDiv(a, b, c)
				check(t, "P2.1: MulDiv", got, ok, nearest(a, b, c), a, b, c)
			}
		}
	}
}

func TestMulDivEdges(t *testing.T) {
	for _, x := range []struct {
		a, b, c, want int64
		ok            bool
	}{
		{7, 1, 2, 4, true},
		{-7, 1, 2, -3, true},
		{7, -1, 2, -3, true},
		{-7, -1, 2, 4, true},
		{1, 1, 2, 1, true},
		{-1, 1, 2, 0, true},
		{-3, 1, 2, -1, true},
		{5, 1, 3, 2, true},
		{4, 1, 3, 1, true},
		{-5, 1, 3, -2, true},
		{-4, 1, 3, -1, true},
		{0, least, 1, 0, true},
		{5, 5, 0, 0, false},
		{5, 5, -1, 0, false},
		{0, 0, 0, 0, false},
		{-6, 3, -2, 0, false},
		{1, 1, least, 0, false},
		{most, most, most, most, true}, // a b is far above 64 bits
		{least, most, most, least, true},
		{least, least, most, 0, false},
		{most, most, most - 1, 0, false},
		{1 << 40, 1 << 40, 1 << 50, 1 << 30, true},
		{1 << 40, 1 << 40, 1 << 18, 1 << 62, true},
		{1 << 40, 1 << 40, 1 << 17, 0, false},
		{-1 << 40, 1 << 40, 1 << 17, least, true},
		{most, 3, 6, 1 << 62, true}, // 2 to the 62, less a half
		{least, 1, 1, least, true},
		{least, -1, 1, 0, false},
		{least, -1, 2, 1 << 62, true},
		{least, 1, most, -1, true},
		{1, 1, most, 0, true},
		{22, 1257732550480196701, 3, most, true},      // the greatest int64, and a third
		{4294967295, 4294967297, 2, 0, false},         // the greatest int64, and a half
		{274177, -67280421310721, 2, least, true},     // the least int64, less a half
		{6, -3074457345618258603, 2, 0, false},        // the least int64, less 1
		{2, most, 2, most, true},                      // 2 times it doesn't fit, what is asked for does
		{most, 2, 1, 0, false},                        // just twice as great
		{1 << 32, 1 << 32, 2, 0, false},               // 2 to the 63
		{1 << 32, -1 << 32, 2, least, true},           // less 2 to the 63
		{4611686018427387904, 4, most, 2, true},       // 2 to the 64 over the greatest c
		{4611686018427387903, 1, most, 0, true},       // just below a half
		{4611686018427387904, 1, most, 1, true},       // just above a half
		{-4611686018427387904, 1, most, -1, true},     // just below less a half
		{-4611686018427387903, 1, most, 0, true},      // just above less a half
		{1, 9223372036854775807, 2, 1 << 62, true},    // odd, above nought
		{-1, 9223372036854775807, 2, 1 - 1<<62, true}, // odd, below nought
		{13, 32768 * 60000, 32768000, 780, true},      // as it is for a way
		{-46341, 46341, 1000000, -2147, true},         // rounded up
		{46341, 46341, 1000000, 2147, true},           // rounded down
		{3000, 256, 5000, 154, true},                  // 153.6
		{-3000, 256, 5000, -154, true},                // less 153.6
		{1000, 256, 512000, 1, true},                  // a half
		{-1000, 256, 512000, 0, true},                 // less a half
		{3000, 256, 512000, 2, true},                  // one and a half
		{-3000, 256, 512000, -1, true},                // less one and a half
		{least + 1, least + 1, most, most, true},      // squares below nought
		{least, most, least + 1, 0, false},            // a c below 0, however near what would fit
	} {
		if got, ok := fx.MulDiv(x.a, x.b, x.c); got != x.want || ok != x.ok {
			t.Errorf("P2.1, P2.3: MulDiv(%d, %d, %d): %d, %v instead of %d, %v", x.a, x.b, x.c, got, ok, x.want, x.ok)
		}
	}
}

func TestAmount(t *testing.T) {
	for _, v := range numbers() {
		got, ok := fx.Amount(v)
		check(t, "P2.1: Amount", got, ok, new(big.Int).Abs(big.NewInt(v)), v)
	}
	for _, x := range []struct {
		v, want int64
		ok      bool
	}{
		{0, 0, true},
		{-1, 1, true},
		{1, 1, true},
		{most, most, true},
		{least + 1, most, true},
		{least, 0, false},
	} {
		if got, ok := fx.Amount(x.v); got != x.want || ok != x.ok {
			t.Errorf("P2.1: Amount(%d): %d, %v", x.v, got, ok)
		}
	}
}

// TestNothingGoesRound: an answer that is told stands on the side where it belongs.
func TestNothingGoesRound(t *testing.T) {
	sign := func(v int64) int { return big.NewInt(v).Sign() }
	for _, a := range numbers() {
		for _, b := range numbers() {
			if sum, ok := fx.Add(a, b); ok && (sum > a) != (b > 0) {
				t.Errorf("P2.3: Add(%d, %d): %d", a, b, sum)
			}
			if rest, ok := fx.Sub(a, b); ok && (rest < a) != (b > 0) {
				t.Errorf("P2.3: Sub(%d, %d): %d", a, b, rest)
			}
			if product, ok := fx.Mul(a, b); ok && sign(product) != sign(a)*sign(b) {
				t.Errorf("P2.3: Mul(%d, %d): %d", a, b, product)
			}
			product, ok := fx.Mul(a, b)
			if same, is := fx.MulDiv(a, b, 1); same != product || is != ok {
				t.Errorf("P2.3: MulDiv(%d, %d, 1): %d, %v, Mul: %d, %v", a, b, same, is, product, ok)
			}
		}
	}
}
