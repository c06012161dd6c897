package fx_test

import (
	"math"
	"math/big"
	"math/bits"
	"testing"

	"leadline/fx"
)

// roots tells roots of all lengths, up to the greatest one of that many bits.
func roots(size uint) []uint64 {
	l := []uint64{math.MaxUint64 >> (64 - size)}
	for v := range uint64(300) {
		l = append(l, v)
	}
	for k := uint(9); k < size; k++ {
		l = append(l, 1<<k-1, 1<<k, 1<<k+1, 3<<(k-1)-1)
	}
	for i, v := range chance(200) {
		l = append(l, v>>(64-size+uint(i)%size))
	}
	return l
}

// TestSqrt holds squares, the numbers one below, and the last ones ahead of the next square.
func TestSqrt(t *testing.T) {
	for _, r := range roots(32) {
		square := r * r
		if got := fx.Sqrt(square); got != uint32(r) {
			t.Errorf("P2.2: Sqrt(%d): %d instead of %d", square, got, r)
		}
		if got := fx.Sqrt(square + 2*r); got != uint32(r) {
			t.Errorf("P2.2: Sqrt(%d): %d instead of %d", square+2*r, got, r)
		}
		if r == 0 {
			continue
		}
		if got := fx.Sqrt(square - 1); got != uint32(r-1) {
			t.Errorf("P2.2: Sqrt(%d): %d instead of %d", square-1, got, r-1)
		}
	}
	for _, v := range chance(2000) {
		want := new(big.Int).Sqrt(new(big.Int).SetUint64(v)).Uint64()
		if got := fx.Sqrt(v); uint64(got) != want {
			t.Errorf("P2.2: Sqrt(%d): %d instead of %d", v, got, want)
		}
	}
}

func TestSqrtEdges(t *testing.T) {
	const last = math.MaxUint32
	for _, x := range []struct {
		v    uint64
		want uint32
	}{
		{0, 0}, {1, 1}, {2, 1}, {3, 1}, {4, 2}, {8, 2}, {9, 3},
		{math.MaxUint32, 1<<16 - 1},
		{1 << 32, 1 << 16},
		{1<<62 - 1, 1<<31 - 1},
		{1 << 62, 1 << 31},
		{math.MaxInt64, 3037000499},
		{1 << 63, 3037000499},
		{last*last - 1, last - 1},
		{last * last, last},
		{math.MaxUint64 - 1, last},
		{math.MaxUint64, last},
	} {
		if got := fx.Sqrt(x.v); got != x.want {
			t.Errorf("P2.2: Sqrt(%d): %d instead of %d", x.v, got, x.want)
		}
	}
}

// TestRoot holds squares, the numbers one below, and the last ones ahead of the next square.
func TestRoot(t *testing.T) {
	for _, r := range roots(64) {
		hi, lo := bits.Mul64(r, r)
		if got := fx.Root(hi, lo); got != r {
			t.Errorf("P2.2: Root(%d, %d): %d instead of %d", hi, lo, got, r)
		}
		next, carry := bits.Add64(lo, r, 0)
		next, more := bits.Add64(next, r, 0)
		if got := fx.Root(hi+carry+more, next); got != r {
			t.Errorf("P2.2: Root(%d, %d): %d instead of %d", hi+carry+more, next, got, r)
		}
		if r == 0 {
			continue
		}
		before, borrow := bits.Sub64(lo, 1, 0)
		if got := fx.Root(hi-borrow, before); got != r-1 {
			t.Errorf("P2.2: Root(%d, %d): %d instead of %d", hi-borrow, before, got, r-1)
		}
	}
}

func TestRootByChance(t *testing.T) {
	l := chance(4000)
	for i := 1; i < len(l); i++ {
		hi, lo := l[i-1]>>(i%65), l[i]
		v := new(big.Int).SetUint64(hi)
		v.Add(v.Lsh(v, 64), new(big.Int).SetUint64(lo))
		if got, want := fx.Root(hi, lo), v.Sqrt(v).Uint64(); got != want {
			t.Errorf("P2.2: Root(%d, %d): %d instead of %d", hi, lo, got, want)
		}
	}
}

func TestRootEdges(t *testing.T) {
	const last = math.MaxUint64
	for _, x := range []struct{ hi, lo, want uint64 }{
		{0, 0, 0},
		{0, 1, 1},
		{0, 3, 1},
		{0, 4, 2},
		{0, last, 1<<32 - 1},
		{1, 0, 1 << 32}, // 2 to the 64
		{1, last, 6074000999},
		{2, 0, 6074000999},
		{4, 0, 1 << 33},
		{3, last, 1<<33 - 1},
		{1 << 62, 0, 1 << 63},
		{1<<62 - 1, last, 1<<63 - 1},
		{1 << 63, 0, 13043817825332782212},
		{last - 1, 0, last - 1}, // one below the greatest square
		{last - 1, 1, last},     // the greatest square
		{last - 1, last, last},
		{last, 0, last},
		{last, last, last},
	} {
		if got := fx.Root(x.hi, x.lo); got != x.want {
			t.Errorf("P2.2: Root(%d, %d): %d instead of %d", x.hi, x.lo, got, x.want)
		}
	}
}

// TestHypot holds numbers up to 2 to the 31 and above it, of all signs, against math/big.
func TestHypot(t *testing.T) {
	limit := power(31)
	for _, x := range numbers() {
		for _, y := range numbers() {
			a, b := big.NewInt(x), big.NewInt(y)
			var want *big.Int
			if a.CmpAbs(limit) <= 0 && b.CmpAbs(limit) <= 0 {
				sum := new(big.Int).Add(a.Mul(a, a), b.Mul(b, b))
				want = sum.Sqrt(sum)
			}
			got, ok := fx.Hypot(x, y)
			check(t, "P2.2: Hypot", got, ok, want, x, y)
		}
	}
}

func TestHypotEdges(t *testing.T) {
	const limit = 1 << 31
	for _, x := range []struct {
		x, y, want int64
		ok         bool
	}{
		{3, 4, 5, true},
		{-3, 4, 5, true},
		{3, -4, 5, true},
		{-3, -4, 5, true},
		{0, 0, 0, true},
		{0, -7, 7, true},
		{1, 1, 1, true},
		{1, 2, 2, true},
		{2, 2, 2, true},
		{4, 8, 8, true},
		{limit, 0, limit, true},
		{0, -limit, limit, true},
		{limit, 1, limit, true},
		{limit, limit, 3037000499, true}, // the sum is 2 to the 63: above an int64
		{-limit, limit, 3037000499, true},
		{limit, -limit, 3037000499, true},
		{-limit, -limit, 3037000499, true},
		{limit - 1, limit, 3037000499, true},
		{limit - 1, limit - 1, 3037000498, true},
		{limit + 1, 0, 0, false},
		{0, limit + 1, 0, false},
		{-limit - 1, 0, 0, false},
		{0, -limit - 1, 0, false},
		{limit + 1, limit, 0, false},
		{limit, -limit - 1, 0, false},
		{1 << 32, 0, 0, false}, // its square, round 2 to the 64, is 0
		{0, 1 << 32, 0, false},
		{math.MaxInt64, 3, 0, false},
		{3, math.MaxInt64, 0, false},
		{math.MinInt64, 3, 0, false},
		{3, math.MinInt64, 0, false},
		{math.MinInt64, math.MinInt64, 0, false},
	} {
		if got, ok := fx.Hypot(x.x, x.y); got != x.want || ok != x.ok {
			t.Errorf("P2.2, P2.3: Hypot(%d, %d): %d, %v instead of %d, %v", x.x, x.y, got, ok, x.want, x.ok)
		}
	}
}
