package wide_test

import (
	"math"
	"math/big"
	"testing"

	"leadline/api"
	"leadline/wide"
)

// bigOf tells a as package math/big has it: what the tests hold the answers against.
func bigOf(a api.Wide) *big.Int {
	v := new(big.Int)
	for i := api.Limbs - 1; i >= 0; i-- {
		v.Lsh(v, 64)
		v.Or(v, new(big.Int).SetUint64(a[i]))
	}
	if v.Bit(1023) == 1 {
		v.Sub(v, power(1024))
	}
	return v
}

// power tells 2 to the k.
func power(k uint) *big.Int {
	return new(big.Int).Lsh(big.NewInt(1), k)
}

// fits tells whether a Wide has v.
func fits(v *big.Int) bool {
	return v.Cmp(power(1023)) < 0 && v.Cmp(new(big.Int).Neg(power(1023))) >= 0
}

// wideOf tells v, which fits, as a Wide.
func wideOf(v *big.Int) api.Wide {
	round := new(big.Int).Mod(v, power(1024))
	limb := power(64)
	var a api.Wide
	for i := range a {
		rest := new(big.Int)
		round.DivMod(round, limb, rest)
		a[i] = rest.Uint64()
	}
	return a
}

var (
	least = wideOf(new(big.Int).Neg(power(1023)))
	most  = wideOf(new(big.Int).Sub(power(1023), big.NewInt(1)))
)

// numbers tells numbers of all lengths: the edges of limbs, of int64, of a Wide, and such as come by chance (always the same ones).
func numbers() []api.Wide {
	l := []api.Wide{least, most, wide.Of(math.MinInt64), wide.Of(math.MaxInt64)}
	for v := int64(-5); v <= 5; v++ {
		l = append(l, wide.Of(v))
	}
	for _, k := range []uint{31, 62, 63, 64, 65, 127, 128, 191, 192, 510, 511, 512, 513, 640, 959, 960, 1020, 1021, 1022, 1023} {
		for d := int64(-2); d <= 2; d++ {
			v := new(big.Int).Add(power(k), big.NewInt(d))
			for _, x := range []*big.Int{v, new(big.Int).Neg(v)} {
				if fits(x) {
					l = append(l, wideOf(x))
				}
			}
		}
	}
	return append(l, chance(100)...)
}

// chance tells n numbers whose limbs are by turns any, all noughts, all ones, or the highest bit alone.
func chance(n int) []api.Wide {
	seed := uint64(11)
	next := func() uint64 {
		seed = seed*6364136223846793005 + 1442695040888963407
		return seed>>33 ^ seed<<31
	}
	var l []api.Wide
	for i := range n {
		var a api.Wide
		for k := range i%api.Limbs + 1 {
			a[k] = next()
			if kind := next() % 7; kind < 4 {
				a[k] = []uint64{0, math.MaxUint64, 1 << 63, math.MaxInt64}[kind]
			}
		}
		if next()%2 == 0 {
			for k := range a {
				a[k] = ^a[k]
			}
		}
		l = append(l, a)
	}
	return l
}

// check holds an answer against what it should be: the number want, or, if a Wide hasn't it (or none is), false and 0.
func check(t *testing.T, promise string, got api.Wide, ok bool, want *big.Int) {
	t.Helper()
	if want == nil || !fits(want) {
		if ok || got != (api.Wide{}) {
			t.Errorf("%s: %v, %v instead of false and 0", promise, bigOf(got), ok)
		}
		return
	}
	if !ok || bigOf(got).Cmp(want) != 0 {
		t.Errorf("%s: %v, %v instead of %v", promise, bigOf(got), ok, want)
	}
}

func TestOfAndInt64(t *testing.T) {
	for _, v := range []int64{0, 1, -1, 2, -2, 1 << 31, -1 << 32, math.MaxInt64, math.MinInt64, math.MinInt64 + 1} {
		a := wide.Of(v)
		if bigOf(a).Cmp(big.NewInt(v)) != 0 {
			t.Errorf("P1.1: Of(%d): %v", v, bigOf(a))
		}
		if got, ok := wide.Int64(a); got != v || !ok {
			t.Errorf("P1.1: Int64 of %d: %d, %v", v, got, ok)
		}
	}
	for _, a := range numbers() {
		want := bigOf(a)
		got, ok := wide.Int64(a)
		if ok != want.IsInt64() || ok && got != want.Int64() || !ok && got != 0 {
			t.Errorf("P1.1: Int64(%v): %d, %v", want, got, ok)
		}
	}
}

func TestInt64JustNot(t *testing.T) {
	for _, v := range []*big.Int{power(63), new(big.Int).Sub(new(big.Int).Neg(power(63)), big.NewInt(1)), power(64), new(big.Int).Neg(power(64)), power(960)} {
		if got, ok := wide.Int64(wideOf(v)); got != 0 || ok {
			t.Errorf("P1.1: Int64(%v): %d, %v", v, got, ok)
		}
	}
}

func TestSignAndBits(t *testing.T) {
	for _, a := range numbers() {
		v := bigOf(a)
		if got := wide.Sign(a); got != v.Sign() {
			t.Errorf("P1.1: Sign(%v): %d", v, got)
		}
		if got := wide.Bits(a); got != v.BitLen() {
			t.Errorf("P1.1: Bits(%v): %d instead of %d", v, got, v.BitLen())
		}
	}
	for k := range uint(1023) {
		if got := wide.Bits(wideOf(power(k))); got != int(k)+1 {
			t.Errorf("P1.1: Bits of 2 to the %d: %d", k, got)
		}
	}
	if wide.Bits(least) != 1024 || wide.Bits(most) != 1023 || wide.Bits(wide.Of(0)) != 0 {
		t.Error("P1.1: Bits at the edges")
	}
}

func TestCmp(t *testing.T) {
	l := numbers()
	for _, a := range l {
		for _, b := range l {
			if got, want := wide.Cmp(a, b), bigOf(a).Cmp(bigOf(b)); got != want {
				t.Errorf("P1.1: Cmp(%v, %v): %d", bigOf(a), bigOf(b), got)
			}
		}
	}
}

func TestAddSubMul(t *testing.T) {
	l := numbers()
	for _, a := range l {
		x := bigOf(a)
		for _, b := range l {
			y := bigOf(b)
			got, ok := wide.Add(a, b)
			check(t, "P1.1: Add", got, ok, new(big.Int).Add(x, y))
			got, ok = wide.Sub(a, b)
			check(t, "P1.1: Sub", got, ok, new(big.Int).Sub(x, y))
			got, ok = wide.Mul(a, b)
			check(t, "P1.1: Mul", got, ok, new(big.Int).Mul(x, y))
		}
	}
}

// TestJustFits holds sums, differences and products against a Wide's edges: one that just fits beside the next, that doesn't.
func TestJustFits(t *testing.T) {
	one, zero, minusOne := wide.Of(1), wide.Of(0), wide.Of(-1)
	below := wideOf(new(big.Int).Sub(bigOf(most), big.NewInt(1)))
	above := wideOf(new(big.Int).Add(bigOf(least), big.NewInt(1)))
	half, minusHalf := wideOf(power(1022)), wideOf(new(big.Int).Neg(power(1022)))
	root, minusTwo := wideOf(power(511)), wide.Of(-2)
	for i, x := range []struct {
		call       func(a, b api.Wide) (api.Wide, bool)
		a, b, want api.Wide
		ok         bool
	}{
		{wide.Add, below, one, most, true},
		{wide.Add, most, one, zero, false},
		{wide.Add, above, minusOne, least, true},
		{wide.Add, least, minusOne, zero, false},
		{wide.Add, minusHalf, minusHalf, least, true},
		{wide.Add, half, half, zero, false},
		{wide.Add, least, most, minusOne, true},
		{wide.Sub, below, minusOne, most, true},
		{wide.Sub, most, minusOne, zero, false},
		{wide.Sub, above, one, least, true},
		{wide.Sub, least, one, zero, false},
		{wide.Sub, zero, least, zero, false},
		{wide.Sub, minusOne, least, most, true},
		{wide.Sub, least, least, zero, true},
		{wide.Mul, least, one, least, true},
		{wide.Mul, least, minusOne, zero, false},
		{wide.Mul, above, minusOne, most, true},
		{wide.Mul, half, minusTwo, least, true},
		{wide.Mul, half, wide.Of(2), zero, false},
		{wide.Mul, minusHalf, minusTwo, zero, false},
		{wide.Mul, root, root, half, true},
		{wide.Mul, root, wideOf(power(512)), zero, false},
		{wide.Mul, least, least, zero, false},
		{wide.Mul, most, most, zero, false},
		{wide.Mul, zero, least, zero, true},
	} {
		if got, ok := x.call(x.a, x.b); got != x.want || ok != x.ok {
			t.Errorf("P1.1, P1.3: %d: %v, %v", i, bigOf(got), ok)
		}
	}
}

// TestNothingGoesRound: an answer that is told stands on the side of its numbers where it belongs.
func TestNothingGoesRound(t *testing.T) {
	l := numbers()
	for _, a := range l {
		for _, b := range l {
			if sum, ok := wide.Add(a, b); ok && wide.Cmp(sum, a) != wide.Sign(b) {
				t.Errorf("P1.3: %v and %v: %v", bigOf(a), bigOf(b), bigOf(sum))
			}
			if rest, ok := wide.Sub(a, b); ok && wide.Cmp(a, rest) != wide.Sign(b) {
				t.Errorf("P1.3: %v less %v: %v", bigOf(a), bigOf(b), bigOf(rest))
			}
			product, ok := wide.Mul(a, b)
			if ok && wide.Sign(product) != wide.Sign(a)*wide.Sign(b) {
				t.Errorf("P1.3: %v times %v: %v", bigOf(a), bigOf(b), bigOf(product))
			}
			if q, r, is := wide.Div(product, b); ok && is && (q != a || r != (api.Wide{})) {
				t.Errorf("P1.3: %v times %v, over that again: %v, %v", bigOf(a), bigOf(b), bigOf(q), bigOf(r))
			}
		}
	}
}

func TestDiv(t *testing.T) {
	l := numbers()
	for _, a := range l {
		for _, b := range l {
			quotient, rest, ok := wide.Div(a, b)
			if b == (api.Wide{}) {
				check(t, "P1.2: quotient of 0", quotient, ok, nil)
				check(t, "P1.2: rest of 0", rest, ok, nil)
				continue
			}
			q, r := new(big.Int).QuoRem(bigOf(a), bigOf(b), new(big.Int))
			if !fits(q) {
				r = nil
			}
			check(t, "P1.2: quotient", quotient, ok, q)
			check(t, "P1.2: rest", rest, ok, r)
		}
	}
}

func TestDivEdges(t *testing.T) {
	zero := wide.Of(0)
	for i, x := range []struct {
		a, b, quotient, rest api.Wide
		ok                   bool
	}{
		{wide.Of(7), wide.Of(2), wide.Of(3), wide.Of(1), true},
		{wide.Of(-7), wide.Of(2), wide.Of(-3), wide.Of(-1), true},
		{wide.Of(7), wide.Of(-2), wide.Of(-3), wide.Of(1), true},
		{wide.Of(-7), wide.Of(-2), wide.Of(3), wide.Of(-1), true},
		{zero, wide.Of(-9), zero, zero, true},
		{wide.Of(5), zero, zero, zero, false},
		{zero, zero, zero, zero, false},
		{least, zero, zero, zero, false},
		{least, wide.Of(-1), zero, zero, false},
		{least, wide.Of(1), least, zero, true},
		{wideOf(new(big.Int).Add(bigOf(least), big.NewInt(1))), wide.Of(-1), most, zero, true},
		{least, least, wide.Of(1), zero, true},
		{least, most, wide.Of(-1), wide.Of(-1), true},
		{most, least, zero, most, true},
		{wide.Of(-1), least, zero, wide.Of(-1), true},
		{least, wide.Of(-2), wideOf(power(1022)), zero, true},
	} {
		quotient, rest, ok := wide.Div(x.a, x.b)
		if quotient != x.quotient || rest != x.rest || ok != x.ok {
			t.Errorf("P1.2: %d: %v, %v, %v", i, bigOf(quotient), bigOf(rest), ok)
		}
	}
}

// TestDivGuesses divides numbers whose limbs, guessed from the highest ones alone, are too great, by one or by two.
func TestDivGuesses(t *testing.T) {
	const top, all, low = 1 << 63, math.MaxUint64, math.MaxInt64
	for i, x := range []struct{ a, b api.Wide }{
		{api.Wide{0, 0, top, low}, api.Wide{1, 0, top}},
		{api.Wide{0, all - 1, 0, top}, api.Wide{all, 0, top}},
		{api.Wide{0, all - 1, top}, api.Wide{all, top}},
		{api.Wide{0, 0, top, 3}, api.Wide{0, 1 << 61, 0, 1}},
		{api.Wide{3, 0, top}, api.Wide{1, 0, 1 << 61}},
		{api.Wide{all, all, all, low}, api.Wide{all, all - 1, all}},
		{api.Wide{0, 0, 0, top - 1, top}, api.Wide{all, all, top}},
		{api.Wide{0, top, top}, api.Wide{1, top + 1}},
		{api.Wide{0, 0, low}, api.Wide{all, top}},
	} {
		quotient, rest, ok := wide.Div(x.a, x.b)
		q, r := new(big.Int).QuoRem(bigOf(x.a), bigOf(x.b), new(big.Int))
		if !ok || bigOf(quotient).Cmp(q) != 0 || bigOf(rest).Cmp(r) != 0 {
			t.Errorf("P1.2: %d: %v, %v instead of %v, %v", i, bigOf(quotient), bigOf(rest), q, r)
		}
	}
}

// nearest tells what Round promises: nothing (nil) of a b that isn't above 0, or if 2 a, 2 b or 2 a + b doesn't fit; else the greatest whole number that isn't above a over b and a half.
func nearest(a, b *big.Int) *big.Int {
	twiceA, twiceB := new(big.Int).Lsh(a, 1), new(big.Int).Lsh(b, 1)
	sum := new(big.Int).Add(twiceA, b)
	if b.Sign() <= 0 || !fits(twiceA) || !fits(twiceB) || !fits(sum) {
		return nil
	}
	return sum.Div(sum, twiceB) // math/big's Div is towards the lower one, of what is above 0
}

func TestRound(t *testing.T) {
	l := numbers()
	for _, a := range l {
		for _, b := range l {
			got, ok := wide.Round(a, b)
			check(t, "P1.2: Round", got, ok, nearest(bigOf(a), bigOf(b)))
		}
	}
	for a := int64(-40); a <= 40; a++ {
		for b := int64(1); b <= 9; b++ {
			want := int64(math.Floor(float64(a)/float64(b) + 0.5))
			if got, ok := wide.Round(wide.Of(a), wide.Of(b)); got != wide.Of(want) || !ok {
				t.Errorf("P1.2: Round(%d, %d): %v, %v instead of %d", a, b, bigOf(got), ok, want)
			}
		}
	}
}

func TestRoundEdges(t *testing.T) {
	half := power(1022) // twice that doesn't fit, twice its negative does
	less := func(v *big.Int, by int64) api.Wide { return wideOf(new(big.Int).Sub(v, big.NewInt(by))) }
	minus := new(big.Int).Neg(half)
	for i, x := range []struct {
		a, b, want api.Wide
		ok         bool
	}{
		{wide.Of(5), wide.Of(2), wide.Of(3), true},
		{wide.Of(-5), wide.Of(2), wide.Of(-2), true},
		{wide.Of(1), wide.Of(2), wide.Of(1), true},
		{wide.Of(-1), wide.Of(2), wide.Of(0), true},
		{wide.Of(-3), wide.Of(2), wide.Of(-1), true},
		{wide.Of(5), wide.Of(0), wide.Of(0), false},
		{wide.Of(5), wide.Of(-2), wide.Of(0), false},
		{wide.Of(0), least, wide.Of(0), false},
		{less(half, 1), wide.Of(1), less(half, 1), true},  // 2 a + b is the greatest Wide
		{less(half, 1), wide.Of(2), wide.Of(0), false},    // 2 a + b is one more
		{wideOf(half), wide.Of(1), wide.Of(0), false},     // 2 a doesn't fit
		{wideOf(minus), wide.Of(1), wideOf(minus), true},  // 2 a is the least Wide
		{less(minus, 1), wide.Of(9), wide.Of(0), false},   // 2 a doesn't fit, 2 a + b does
		{wide.Of(0), less(half, 1), wide.Of(0), true},     // 2 b is the greatest Wide but one
		{wide.Of(0), wideOf(half), wide.Of(0), false},     // 2 b doesn't fit, b and 2 a + b do
		{wideOf(minus), less(half, 1), wide.Of(-1), true}, // both at their edges
		{less(half, 1), less(half, 1), wide.Of(0), false}, // 2 a + b doesn't fit, 2 a and 2 b do
		{wideOf(power(1021)), wideOf(power(1021)), wide.Of(1), true},
	} {
		if got, ok := wide.Round(x.a, x.b); got != x.want || ok != x.ok {
			t.Errorf("P1.2: Round %d: %v, %v", i, bigOf(got), ok)
		}
	}
}

// TestNothingIsChanged: a Wide is handed in as a copy.
func TestNothingIsChanged(t *testing.T) {
	for _, a := range numbers() {
		b := a
		wide.Add(a, most)
		wide.Sub(a, least)
		wide.Mul(a, a)
		wide.Div(a, wide.Of(-3))
		wide.Round(a, wide.Of(3))
		if a != b {
			t.Fatalf("P1.1: %v was changed", bigOf(b))
		}
	}
}
