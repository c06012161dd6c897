package motion_test

import (
	"math/big"
	"slices"
	"testing"

	"leadline/api"
	"leadline/bound"
	"leadline/info"
	"leadline/sym"
)

// square tells m's rows as fractions.
func square(m api.Sym) [][]*big.Rat {
	rows := make([][]*big.Rat, m.N)
	for i := range rows {
		for j := range m.N {
			rows[i] = append(rows[i], big.NewRat(m.A[index(m.N, i, j)], 1))
		}
	}
	return rows
}

// inverted tells the inverse of rows that are definite.
func inverted(rows [][]*big.Rat) [][]*big.Rat {
	n := len(rows)
	var wide, inverse [][]*big.Rat
	for i, row := range rows {
		one := make([]*big.Rat, n)
		for j := range one {
			one[j] = new(big.Rat)
		}
		one[i] = big.NewRat(1, 1)
		wide = append(wide, append(slices.Clone(row), one...))
	}
	for i, row := range wide {
		first := row[i]
		for j := range row {
			row[j] = new(big.Rat).Quo(row[j], first)
		}
		for k, other := range wide {
			share := other[i]
			for j := range other {
				if k != i {
					other[j] = new(big.Rat).Sub(other[j], new(big.Rat).Mul(share, row[j]))
				}
			}
		}
	}
	for _, row := range wide {
		inverse = append(inverse, row[n:])
	}
	return inverse
}

// across tells rows times x.
func across(rows [][]*big.Rat, x []*big.Rat) []*big.Rat {
	var l []*big.Rat
	for _, row := range rows {
		sum := new(big.Rat)
		for j, v := range row {
			sum.Add(sum, new(big.Rat).Mul(v, x[j]))
		}
		l = append(l, sum)
	}
	return l
}

// isNearest holds a number that was told against the fraction that it should be the nearest of.
func isNearest(t *testing.T, what string, a asked, got int64, f *big.Rat) {
	t.Helper()
	off := new(big.Rat).Sub(big.NewRat(got, 1), f)
	if off.Cmp(big.NewRat(1, 2)) > 0 || off.Cmp(big.NewRat(-1, 2)) <= 0 { // of a half the greater one
		t.Errorf("P19.2: Predict(%v): %s %d instead of %v", a, what, got, f)
	}
}

// moved tells definite states of all orders and motions by chance, and what was told of them.
func moved(t *testing.T, seed uint64, many int, use func(a asked, got api.State)) {
	t.Helper()
	d := thrown(seed)
	for i := range many {
		rows := orders()[i%16]
		n := sizeOf(rows)
		m := heavy(d, n, 2+d.Int64N(1<<(1+d.IntN(26))))
		if d.IntN(3) == 0 {
			m = narrow(d, n, []int64{2, 50, 3000}[d.IntN(3)])
		}
		s := api.State{M: m, V: vector(d, n, 1<<(10+d.IntN(40))), Row: rows}
		a := open(s, at(upTo(d, 1<<d.IntN(22)), upTo(d, farthest)), 1+d.Int64N(1<<(1+d.IntN(20))))
		use(a, predicts(t, a))
	}
}

// TestAsUnsureAsTheMotion: how unsure all is, that is the inverse of the matrix, is more by one over stiff on the vehicle's diagonal, and nowhere else; the mean is more by the motion, of the vehicle; each number is the nearest to what that makes it.
func TestAsUnsureAsTheMotion(t *testing.T) {
	moved(t, 2, 240, func(a asked, got api.State) {
		unsure := inverted(square(a.s.M))
		var v []*big.Rat
		for _, number := range a.s.V {
			v = append(v, big.NewRat(number, 1))
		}
		mean := across(unsure, v)
		for p, u := range []int64{a.u.X, a.u.Y} {
			unsure[p][p] = new(big.Rat).Add(unsure[p][p], big.NewRat(1, a.stiff))
			mean[p] = new(big.Rat).Add(mean[p], big.NewRat(u, 1))
		}
		sure := inverted(unsure)
		for i, number := range across(sure, mean) {
			isNearest(t, "number", a, got.V[i], number)
			for j := i; j < got.M.N; j++ {
				isNearest(t, "entry", a, got.M.A[index(got.M.N, i, j)], sure[i][j])
			}
		}
	})
}

// more tells m with v more on the diagonal.
func more(t *testing.T, m api.Sym, v int64) api.Sym {
	t.Helper()
	sum, err := sym.Diag(m, v)
	if err != nil {
		t.Fatalf("P19.2: %v with %d more: %v", m, v, err)
	}
	return sum
}

// TestNoMore: what is known behind a motion is no more than before, but for rounding, which changes each entry by a half at most; of the vehicle it is no more than the motion is stiff.
func TestNoMore(t *testing.T) {
	moved(t, 3, 400, func(a asked, got api.State) {
		n := a.s.M.N
		if !info.Right(got) || !bound.Below(got.M, more(t, a.s.M, int64(n/2))) {
			t.Errorf("P19.2: Predict(%v): %v is more", a, got)
		}
		vehicle, err := sym.Drop(got.M, 2, n-2)
		if err != nil || !bound.Below(vehicle, even(2, a.stiff)) {
			t.Errorf("P19.2: Predict(%v): %v knows more than the motion tells", a, got)
		}
	})
}

// TestNoMoreOfLoose: that holds too where what is known isn't definite, if with the motion the vehicle's block is.
func TestNoMoreOfLoose(t *testing.T) {
	d, taken := thrown(4), 0
	for i := range 2000 {
		rows := orders()[i%16]
		n := sizeOf(rows)
		s := api.State{M: laid(n, func(i, j int) int64 { return upTo(d, 1<<14) }), V: vector(d, n, 1<<30), Row: rows}
		got, err := predict(t, open(s, at(upTo(d, 5000), 7), 1+d.Int64N(1<<(1+d.IntN(20)))))
		if err != nil {
			continue
		}
		taken++
		if !bound.Below(got.M, more(t, s.M, int64(n/2))) {
			t.Errorf("P19.2: of %v: %v is more", s, got)
		}
	}
	if taken < 500 {
		t.Errorf("P19.2: %d motions were taken", taken)
	}
}

// TestSofterKnowsLess: of two motions the one that is less stiff leaves no more, but for rounding.
func TestSofterKnowsLess(t *testing.T) {
	moved(t, 5, 200, func(a asked, got api.State) {
		for _, stiff := range []int64{1, (a.stiff + 1) / 2, max(a.stiff-1, 1)} {
			softer := predicts(t, open(a.s, a.u, stiff))
			if !bound.Below(softer.M, more(t, got.M, int64(got.M.N))) {
				t.Errorf("P19.2: Predict(%v): %v, and of %d more: %v", a, got, stiff, softer)
			}
		}
	})
}

// TestUnlinkedStay: what isn't linked to the vehicle stays as it was, bit by bit, however soft the motion is.
func TestUnlinkedStay(t *testing.T) {
	d := thrown(6)
	for _, rows := range orders() {
		n := sizeOf(rows)
		for range 12 {
			s := api.State{M: laid(n, func(i, j int) int64 {
				if j < 2 {
					return []int64{5000 + d.Int64N(900), upTo(d, 3000)}[j-i]
				}
				if i < 2 {
					return 0
				}
				return upTo(d, edge)
			}), V: vector(d, n, top), Row: rows}
			s.V[0], s.V[1] = upTo(d, top/2), upTo(d, top/2)
			got := predicts(t, open(s, at(upTo(d, farthest), upTo(d, farthest)), 1+d.Int64N(stiffest)))
			for i := 2; i < n; i++ {
				if got.V[i] != s.V[i] {
					t.Errorf("P19.2: of %v: %v", s, got)
				}
				for j := range n {
					if at := index(n, i, j); got.M.A[at] != s.M.A[at] {
						t.Errorf("P19.2: of %v: %v", s, got)
					}
				}
			}
		}
	}
}

// TestMeanMoves: where the vehicle is is more by the motion, where the beacons are is as before, but for rounding.
func TestMeanMoves(t *testing.T) {
	d := thrown(7)
	for i := range 100 {
		rows := orders()[i%16]
		n := sizeOf(rows)
		s, u := placed(heavy(d, n, 1<<26), vector(d, n, 90000), rows), at(upTo(d, 9000), upTo(d, 9000))
		got := predicts(t, open(s, u, stiffest))
		ahead, err := info.Mean(s)
		behind, other := info.Mean(got)
		if err != nil || other != nil {
			t.Fatalf("P19.2: of %v: %v, %v", s, err, other)
		}
		ahead[0] += u.X
		ahead[1] += u.Y
		for i, v := range behind {
			if max(v-ahead[i], ahead[i]-v) > 2 {
				t.Errorf("P19.2: of %v by %v: %d instead of %d", s, u, behind, ahead)
			}
		}
	}
}

// TestOneBehindAnother: the longer it goes, the less it knows, by as much as each motion takes: written down.
func TestOneBehindAnother(t *testing.T) {
	s := alone(1000, 0, 1000, 0, 3000000) // at 0, 3000
	for i, want := range []struct{ sure, x, y int64 }{{500, 3500, 1498000}, {333, 4667, 997333}, {250, 5250, 747188}, {200, 5600, 596950}, {167, 5833, 496792}} {
		s = predicts(t, open(s, at(7, -4), 1000))
		if !same(s, alone(want.sure, 0, want.sure, want.x, want.y)) {
			t.Errorf("P19.2: motion %d: %v instead of %v", i, s, want)
		}
	}
}

// TestManyMotions: behind a range and many motions the vehicle is where it went, and the beacon where it was, but for rounding; the longer it goes, the less is known.
func TestManyMotions(t *testing.T) {
	s, err := info.New(at(0, 0), 100000)
	if err == nil {
		s, err = info.Add(s, 2, at(30000, 40000), 100000)
	}
	if err == nil {
		s, err = info.Fuse(s, api.Config{Weight: 50, Gamma: 4096, Least: 1, Most: edge}, 2, 50010)
	}
	if err != nil {
		t.Fatalf("P19.2: %v", err)
	}
	for range 20 {
		next := predicts(t, asked{s, at(500, -200), 600000, 1, edge})
		if !bound.Below(next.M, more(t, s.M, 2)) {
			t.Errorf("P19.2: behind %v: %v is more", s, next)
		}
		s = next
	}
	for slot, want := range map[int]api.Point{-1: at(10000-3, -4000-4), 2: at(30003, 40004)} { // the range has moved both by half of what it was off
		if got, err := info.Place(s, slot); err != nil || max(got.X-want.X, want.X-got.X) > 10 || max(got.Y-want.Y, want.Y-got.Y) > 10 {
			t.Errorf("P19.2: %d is at %v, %v instead of %v", slot, got, err, want)
		}
	}
}
