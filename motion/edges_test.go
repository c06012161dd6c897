package motion_test

import (
	"math"
	"math/big"
	"testing"

	"leadline/api"
)

// block tells a state of n rows: the vehicle's three entries such that with k on the diagonal they are these, v on the diagonal of the beacons, noughts beside it, V noughts.
func block(n int, k, first, beside, second, v int64) api.State {
	m := even(n, v)
	m.A[index(n, 0, 0)], m.A[index(n, 0, 1)], m.A[index(n, 1, 1)] = first-k, beside, second-k
	return api.State{M: m, V: make([]int64, n), Row: rowsOf(n)}
}

// turned tells s with its first two coordinates the other way round.
func turned(s api.State) api.State {
	other := copied(s)
	for i := range s.M.N {
		for j := i; j < s.M.N; j++ {
			other.M.A[index(s.M.N, swapped(i), swapped(j))] = s.M.A[index(s.M.N, i, j)]
		}
		other.V[swapped(i)] = s.V[i]
	}
	return other
}

// swapped tells 1 of 0, 0 of 1, any other number of itself.
func swapped(i int) int {
	if i < 2 {
		return 1 - i
	}
	return i
}

// linked tells s with these links of the vehicle to row r.
func linked(s api.State, r int, x, y int64) api.State {
	return with(with(s, 0, r, x), 1, r, y)
}

// TestLoose: a first entry with stiff on it that is nought, or below it; a determinant that is nought, or below it, also by one; that is told ahead of what is too great, and of the bounds.
func TestLoose(t *testing.T) {
	for _, x := range []struct{ first, beside, second int64 }{
		{0, 0, 0}, {0, 0, 5}, {5, 0, 0}, {-1, 0, 5}, {5, 0, -1}, {0, 3, 0}, {0, 3, 5}, {0, -3, edge}, {-1, 0, -1}, {-7, 2, -5}, {-9, 3, -1}, {-1, 3, -1},
		{1, 1, 1}, {2, 2, 2}, {4, 6, 9}, {4, -6, 9}, {1, 2, 1}, {1, -2, 3}, {5, 3, 1}, {3, 2, 1}, {9, 4000, 9}, {1, edge, edge}, {edge, edge, edge}, {edge, -edge, edge},
		{16384 * 16384, 16384 * 30000, 30000 * 30000}, {267914296, 433494437, 701408733}, {267914296, -433494437, 701408733}, // the determinant is nought, -1
		{-edge + 9, 0, -edge + 9}, {-edge + 9, edge, -edge + 9}, {-edge + 9, 0, edge}, {edge, 0, -edge + 9},
	} {
		for _, k := range []int64{1, 2, 1000, stiffest} {
			for n := 2; n <= api.MaxDim; n += 2 {
				if x.first-k < -edge || x.second-k < -edge {
					continue
				}
				for _, s := range []api.State{block(n, k, x.first, x.beside, x.second, 5), block(n, k, x.first, x.beside, x.second, -edge)} {
					if n > 2 {
						s = linked(s, n-1, 9, edge)
					}
					for _, a := range []asked{open(s, at(3, -4), k), open(turned(s), at(3, -4), k)} {
						predictFails(t, a, api.ErrLoose)
						a.most = math.MinInt64
						predictFails(t, a, 30)
					}
				}
			}
		}
	}
	predictFails(t, open(alone(-1, 0, 5, 0, 0), at(0, 0), 1), 30)
	predictFails(t, open(alone(5, 0, -1, 0, 0), at(0, 0), 1), 30)
	predictFails(t, open(alone(-3, 0, -3, 0, 0), at(0, 0), 2), 30) // the determinant is 1, yet the first is -1
	predictFails(t, open(alone(0, 1, 0, 0, 0), at(0, 0), 1), 30)
	predictFails(t, open(alone(0, -1, 0, 0, 0), at(0, 0), 1), 30)
}

// TestNotLoose: a determinant that is 1, small or of great entries; it may be that the vehicle's block itself isn't definite, or the whole.
func TestNotLoose(t *testing.T) {
	predictIs(t, open(alone(0, 0, 0, 7, -9), at(0, 0), 1), alone(0, 0, 0, 7, -9))
	predictIs(t, open(alone(0, 0, 0, 0, 0), at(5, -farthest), stiffest), alone(0, 0, 0, 0, 0))
	predictIs(t, open(alone(1, 1, 0, 3, 5), at(0, 0), 1), alone(0, 1, -1, -2, 7))
	predictIs(t, open(alone(-6, 0, -6, 3, 5), at(1, 0), 7), alone(-42, 0, -42, -21, 35))
	predictIs(t, open(alone(165580140, 267914296, 433494436, 2, -1), at(0, 0), 1), alone(-433494436, 267914296, -165580140, 2*433494437+267914296, -2*267914296-165580141))
	predictIs(t, open(alone(165580140, -267914296, 433494436, 2, 1), at(0, 0), 1), alone(-433494436, -267914296, -165580140, 2*433494437+267914296, 2*267914296+165580141))
	for n := 2; n <= api.MaxDim; n += 2 {
		for _, k := range []int64{1, 3, 30000} {
			for _, x := range []struct{ first, beside, second int64 }{{1, 0, 1}, {2, 1, 1}, {1, -1, 2}, {5, 2, 1}, {1, 100, 10001}, {10, 3, 1}} {
				for _, v := range []int64{5, 0, -5, edge, -edge} {
					if number := predictHolds(t, open(block(n, k, x.first, x.beside, x.second, v), at(3, -4), k)); number != 0 && k < 1000 {
						t.Errorf("P19.1: %v of %d, %v, %d: %v", x, n, k, v, number)
					}
				}
			}
		}
	}
}

// tuned tells what change tells of the number from lo to hi for which number tells want; it tells no less of greater ones, or no more of them.
func tuned(t *testing.T, lo, hi, want int64, change func(v int64) asked, number func(a asked, h half) *big.Int) asked {
	t.Helper()
	reads := func(v int64) *big.Int {
		a := change(v)
		h, ok := a.half()
		if !ok {
			t.Fatalf("P19.1: %v is loose", a)
		}
		return number(a, h)
	}
	sign := reads(hi).Cmp(reads(lo))
	for lo < hi {
		mid := lo + (hi-lo)/2
		if reads(mid).Cmp(whole(want))*sign < 0 {
			lo = mid + 1
		} else {
			hi = mid
		}
	}
	if reads(lo).Cmp(whole(want)) != 0 {
		t.Fatalf("P19.1: %v is %v instead of %d", change(lo), reads(lo), want)
	}
	return change(lo)
}

// tooGreat tells how many entries and numbers the chapter's words make too great.
func tooGreat(a asked) int {
	h, _ := a.half()
	many := 0
	for _, v := range a.entries(h) {
		if v.CmpAbs(whole(edge)) > 0 {
			many++
		}
	}
	for _, v := range a.numbers(h) {
		if v.CmpAbs(whole(top)) > 0 {
			many++
		}
	}
	return many
}

// brims holds what comes just to end, one less, and one and two past it, all else being no greater than it may be; past it that is told ahead of the bounds.
func brims(t *testing.T, end, lo, hi int64, change func(v int64) asked, number func(a asked, h half) *big.Int) {
	t.Helper()
	sign := int64(1)
	if end < 0 {
		sign = -1
	}
	for _, past := range []int64{-2, -1, 0} {
		a := tuned(t, lo, hi, end+past*sign, change, number)
		if many := tooGreat(a); many != 0 {
			t.Fatalf("P19.1: of %v %d numbers are too great", a, many)
		}
		predicts(t, a)
		predictHolds(t, a)
	}
	for _, past := range []int64{1, 2} {
		a := tuned(t, lo, hi, end+past*sign, change, number)
		if many := tooGreat(a); many != 1 {
			t.Fatalf("P19.1: of %v %d numbers are too great", a, many)
		}
		predictFails(t, a, api.ErrOver)
		a.least, a.most = math.MaxInt64, math.MinInt64
		predictFails(t, a, 21)
	}
}

// entryOf tells what tells the new entry (i, j).
func entryOf(i, j int) func(a asked, h half) *big.Int {
	return func(a asked, h half) *big.Int { return a.entries(h)[index(a.s.M.N, i, j)] }
}

// numberOf tells what tells the new number i of V.
func numberOf(i int) func(a asked, h half) *big.Int {
	return func(a asked, h half) *big.Int { return a.numbers(h)[i] }
}

// TestVehiclesEntries: the vehicle's own entries come to -MaxEntry on the diagonal (never to MaxEntry: stiff is more than they are), and to both ends beside it.
func TestVehiclesEntries(t *testing.T) {
	for n := 2; n <= api.MaxDim; n += 2 {
		const k = 1 << 15
		first := func(v int64) asked { return open(block(n, k, 1, 5, v, 5), at(1, 2), k) }
		second := func(v int64) asked { return open(turned(block(n, k, 1, -5, v, 5)), at(1, 2), k) }
		brims(t, -edge, 819000, 820000, first, entryOf(0, 0))
		brims(t, -edge, 819000, 820000, second, entryOf(1, 1))
		for _, sign := range []int64{1, -1} {
			const stiff, beside = 1047552, 1<<28 - 1<<21
			brims(t, sign*edge, 0, 200, func(v int64) asked {
				return open(block(n, stiff, beside+511+v, sign*beside, beside+511-v, 5), at(0, 0), stiff)
			}, entryOf(0, 1))
		}
	}
	predictIs(t, open(block(2, 2, 1, 0, 1, 5), at(0, 0), 2), alone(-2, 0, -2, 0, 0))
}

// TestVehiclesAndBeacons: entries between the vehicle's rows and each of a beacon's come to both ends.
func TestVehiclesAndBeacons(t *testing.T) {
	for n := 4; n <= api.MaxDim; n += 2 {
		for r := 2; r < n; r++ {
			for _, sign := range []int64{1, -1} {
				change := func(v int64) asked {
					return open(linked(block(n, stiffest, 1500, 1, stiffest, 1<<29), r, sign*1536000, v), at(0, 0), stiffest)
				}
				brims(t, sign*edge, -9000, 9000, change, entryOf(0, r))
				brims(t, sign*edge, -9000, 9000, func(v int64) asked {
					a := change(v)
					a.s = turned(a.s)
					return a
				}, entryOf(1, r))
			}
		}
	}
}

// TestBeaconsEntries: beacons' entries come to -MaxEntry on the diagonal (to MaxEntry where no link takes anything off, and never past it), to both ends beside it.
func TestBeaconsEntries(t *testing.T) {
	for n := 4; n <= api.MaxDim; n += 2 {
		for r := 2; r < n; r++ {
			for p := range 2 {
				brims(t, -edge, -edge, 9-edge, func(v int64) asked {
					return open(with(with(block(n, 7, 1, 0, 1, 5), p, r, 2), r, r, v), at(0, 0), 7)
				}, entryOf(r, r))
			}
			for _, v := range []int64{edge, -edge} {
				a := open(with(block(n, 7, 9, 3, 5, 5), r, r, v), at(9, 9), 7)
				if got := predicts(t, a); got.M.A[index(n, r, r)] != v {
					t.Errorf("P19.1: Predict(%v): %v", a, got)
				}
			}
			for j := r + 1; j < n; j++ {
				for _, sign := range []int64{1, -1} {
					brims(t, sign*edge, sign*edge-6020, sign*edge+6020, func(v int64) asked {
						s := linked(linked(block(n, 1000, 1000, 10, 1000, 5), r, 3000, 7), j, -2000*sign, 11)
						return open(with(s, r, j, v), at(0, 0), 1000)
					}, entryOf(r, j))
				}
			}
		}
	}
}

// TestVehiclesNumbers: the vehicle's numbers of V come to both ends.
func TestVehiclesNumbers(t *testing.T) {
	for n := 2; n <= api.MaxDim; n += 2 {
		for _, sign := range []int64{1, -1} {
			change := func(v int64) asked {
				s := told(told(block(n, 1000, 999, 1, 1000, 5), 0, sign*(top-top/1000)), 1, v)
				return open(s, at(3, -4), 1000)
			}
			brims(t, sign*top, -1<<48, 1<<48, change, numberOf(0))
			brims(t, sign*top, -1<<48, 1<<48, func(v int64) asked {
				a := change(v)
				a.s = turned(a.s)
				return a
			}, numberOf(1))
		}
	}
	predictIs(t, open(alone(0, 0, 0, top, -top), at(farthest, 1), stiffest), alone(0, 0, 0, top, -top)) // with nought the motion tells nothing
	predictFails(t, open(alone(-1, 0, 0, top, 0), at(0, 0), 2), 21)                                     // twice as much
	predictFails(t, open(alone(0, 0, -1, 0, -top), at(0, 0), 2), 21)
	predictIs(t, open(alone(-1, 0, -1, top/2, -top/2), at(0, 0), 2), alone(-2, 0, -2, top, -top))
	predictFails(t, open(alone(-1, 0, -1, top/2, 1), at(-1, 0), 2), 21) // 2 more
	predictFails(t, open(alone(-1, 0, -1, 1, -top/2), at(0, 1), 2), 21)
	predictFails(t, open(alone(1-stiffest, 0, 0, top, 0), at(0, 0), stiffest), 21) // a sum that 64 bits haven't; nor have they the entry, below
	predictFails(t, open(alone(1-1<<15, 0, 0, top, 0), at(0, 0), 1<<15), 21)       // 2 to the 71: the entry is 2 to the 15 less 2 to the 30
	predictFails(t, open(alone(1-1<<15, 0, 0, -top, 0), at(0, 0), 1<<15), 21)
	predictFails(t, open(alone(1-1<<15, 0, 0, 1<<49, 0), at(0, 0), 1<<15), 21) // 2 to the 64
	predictFails(t, open(alone(1-1<<15, 0, 0, 1<<49+1, 0), at(0, 0), 1<<15), 21)
	predictIs(t, open(alone(1-1<<15, 0, 0, 1<<41, 0), at(0, 0), 1<<15), alone(1<<15-edge, 0, 0, top, 0))
	predictFails(t, open(alone(1-1<<15, 0, 0, 1<<41+1, 0), at(0, 0), 1<<15), 21)
}

// TestBeaconsNumbers: each of the beacons' numbers of V comes to both ends.
func TestBeaconsNumbers(t *testing.T) {
	for n := 4; n <= api.MaxDim; n += 2 {
		for r := 2; r < n; r++ {
			for _, sign := range []int64{1, -1} {
				for p := range 2 {
					brims(t, sign*top, sign*top-199, sign*top+199, func(v int64) asked { // 130 more by the link
						s := told(told(with(block(n, 1000, 1000, 0, 1000, 5), p, r, 10), p, -9000*sign), r, v)
						return open(s, at(4*sign, 4*sign), 1000)
					}, numberOf(r))
				}
			}
			for _, v := range []int64{top, -top} {
				a := open(told(block(n, 7, 9, 3, 5, 5), r, v), at(9, 9), 7)
				if got := predicts(t, a); got.V[r] != v {
					t.Errorf("P19.1: Predict(%v): %v", a, got)
				}
			}
			far := told(with(block(n, 1, 1, 0, 1, 5), 0, r, 30000), 0, top) // 30000 times 2 to the 56
			predictFails(t, open(far, at(0, 0), 1), 21)
			predictFails(t, open(told(far, 0, -top), at(0, 0), 1), 21)
			predictFails(t, open(told(with(far, 0, r, 256), r, 5), at(0, 0), 1), 21) // 2 to the 64: what is left of it in 64 bits is 5
			predictFails(t, open(told(with(far, 0, r, -32768), r, 5), at(0, 0), 1), 21)
		}
	}
}

// TestFarBeyond64Bits: entries, numbers at their ends: what is on the way has some 118 bits, what comes out of it is as small as may be.
func TestFarBeyond64Bits(t *testing.T) {
	held := 0
	for n := 2; n <= api.MaxDim; n += 2 {
		for which := range 1 << n {
			side := func(i int) int64 { return int64(1 - which>>i&1*2) }
			s := api.State{M: laid(n, func(i, j int) int64 { return side(i) * side(j) * edge }), Row: rowsOf(n)}
			for i := range n {
				s.V = append(s.V, side(i)*top)
			}
			for _, k := range []int64{1, 999983, stiffest} {
				for _, u := range []api.Point{at(0, 0), at(farthest, -farthest)} {
					if number := predictHolds(t, open(s, u, k)); number == 0 {
						held++
					}
				}
			}
		}
	}
	if held < 1000 {
		t.Errorf("P19.1: %d weren't too great", held)
	}
}

// TestBounds: matrices that just keep the least and the most, and such as just don't; too loose is told ahead of too tight.
func TestBounds(t *testing.T) {
	d := thrown(1)
	for i := range 64 {
		rows := orders()[i%16]
		s, u, k := links(rows)[i/16], at(upTo(d, farthest), upTo(d, farthest)), 1+d.Int64N(1<<(1+d.IntN(20)))
		if i >= 16 {
			s = placed(heavy(d, sizeOf(rows), 2+d.Int64N(1<<(1+d.IntN(25)))), vector(d, sizeOf(rows), 90000), rows)
		}
		got := predicts(t, open(s, u, k))
		least, most := bounds(got.M)
		for _, x := range []struct {
			least, most int64
			want        api.Errno
		}{
			{least, most, 0}, {least + 1, most, 30}, {least, most - 1, 31}, {least + 1, most - 1, 30},
			{least - 1, most + 1, 0}, {math.MinInt64, most, 0}, {least, math.MaxInt64, 0},
			{math.MinInt64, most - 1, 31}, {least + 1, math.MaxInt64, 30},
			{math.MaxInt64, math.MaxInt64, 30}, {math.MinInt64, math.MinInt64, 31}, {math.MaxInt64, math.MinInt64, 30}, {math.MinInt64, math.MaxInt64, 0}, {-1 << 34, -1 << 34, 31}, {1 << 32, 1 << 34, 30},
		} {
			a := asked{s, u, k, x.least, x.most}
			if x.want == 0 {
				predictIs(t, a, got)
				continue
			}
			predictFails(t, a, x.want)
		}
	}
}

// TestBoundsOfTheNew: it is the new matrix that has to keep the bounds, not the one ahead of it.
func TestBoundsOfTheNew(t *testing.T) {
	s := alone(100, 0, 100, 0, 0) // 50 behind a motion of 100
	predictIs(t, asked{s, at(0, 0), 100, 49, 51}, alone(50, 0, 50, 0, 0))
	predictFails(t, asked{s, at(0, 0), 100, 50, 101}, api.ErrLoose)
	predictFails(t, asked{s, at(0, 0), 100, 49, 50}, api.ErrTight)
	predictFails(t, asked{s, at(0, 0), 100, 99, 101}, api.ErrLoose)
	tight := known(4, []int64{100, 0, 0, 0, 100, 0, 0, 70, 0, 80}, make([]int64, 4), 2, -1, -1)
	predictFails(t, asked{tight, at(0, 0), 100, 49, 80}, 31)
	predictIs(t, asked{tight, at(0, 0), 100, 49, 81}, known(4, []int64{50, 0, 0, 0, 50, 0, 0, 70, 0, 80}, make([]int64, 4), 2, -1, -1))
}

// TestOrder: where two errors apply, the one that the chapter names first.
func TestOrder(t *testing.T) {
	s := alone(100, 0, 100, 1000, 2000)
	over := alone(1-1<<15, 0, 0, top, 0)
	for _, x := range []struct {
		what string
		a    asked
		want api.Errno
	}{
		{"not right, a measure", asked{api.State{}, at(farthest+1, 0), 0, 0, 0}, 23},
		{"not right, stiff", open(told(s, 0, top+1), at(0, 0), 0), 23},
		{"not right, loose", open(told(with(s, 0, 0, -edge), 0, top+1), at(0, 0), 1), 23},
		{"not right, the bounds", asked{with(s, 0, 0, edge+1), at(0, 0), 1, math.MaxInt64, math.MinInt64}, 23},
		{"a coordinate, loose", open(with(s, 0, 0, -edge), at(farthest+1, 0), 1), 27},
		{"stiff, loose", open(with(s, 0, 0, -edge), at(0, 0), 0), 27},
		{"stiff below nought, loose", open(with(s, 0, 0, -edge), at(0, 0), math.MinInt64), 27},
		{"a coordinate, a number", open(over, at(0, -farthest-1), 1<<15), 27},
		{"stiff, a number", open(over, at(0, 0), stiffest+1), 27},
		{"stiff, the bounds", asked{s, at(0, 0), 0, math.MaxInt64, math.MinInt64}, 27},
		{"loose, a number", open(with(over, 1, 1, -1<<15), at(0, 0), 1<<15), 30},
		{"loose, an entry", open(with(linked(block(4, 1, -1, 0, -1, edge), 2, 9, 9), 3, 3, -edge), at(0, 0), 1), 30},
		{"loose, too tight", asked{with(s, 0, 0, -1), at(0, 0), 1, math.MinInt64, math.MinInt64}, 30},
		{"an entry, too loose", asked{block(2, stiffest, 1, 0, 1, 5), at(0, 0), stiffest, math.MaxInt64, math.MaxInt64}, 21},
		{"an entry, too tight", asked{block(2, stiffest, 1, 0, 1, 5), at(0, 0), stiffest, math.MinInt64, math.MinInt64}, 21},
		{"a number, too loose", asked{over, at(0, 0), 1 << 15, math.MaxInt64, math.MaxInt64}, 21},
		{"a number, too tight", asked{over, at(0, 0), 1 << 15, math.MinInt64, math.MinInt64}, 21},
		{"too loose, too tight", asked{s, at(0, 0), 100, math.MaxInt64, math.MinInt64}, 30},
		{"too tight", asked{s, at(0, 0), 100, math.MinInt64, math.MinInt64}, 31},
	} {
		predictFails(t, x.a, x.want)
		if _, number := predicted(x.a); number != x.want {
			t.Errorf("P19.1: %s: the words tell %v instead of %v", x.what, number, x.want)
		}
	}
}
