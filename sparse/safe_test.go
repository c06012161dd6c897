package sparse_test

import (
	"math/big"
	"testing"

	"leadline/api"
	"leadline/bound"
	"leadline/info"
	"leadline/sparse"
)

// parted tells cuts that have no error, of definite states of all orders by chance, and what was told of them; definite: only such as are so behind the cut, too.
func parted(t *testing.T, seed uint64, many int, definite bool, use func(a asked, got api.State)) {
	t.Helper()
	d, taken := thrown(seed), 0
	for i := range many {
		rows := orders()[1+i%15]
		n := sizeOf(rows)
		m := heavy(d, n, 2+d.Int64N(1<<(1+d.IntN(29))))
		if d.IntN(4) == 0 {
			m = narrow(d, n, []int64{2, 50, 3000}[d.IntN(3)])
		}
		s := api.State{M: m, V: vector(d, n, 1<<(5+d.IntN(25))), Row: rows}
		a := open(s, beacons(rows)[d.IntN(len(beacons(rows)))])
		if definite {
			a.least = 0
		}
		if got, err := cut(t, a); err == nil {
			use(a, got)
			taken++
		}
	}
	if taken < many/3 {
		t.Errorf("P20.3: %d of %d cuts were taken", taken, many)
	}
}

// TestNoMore: the matrix behind a cut is no more than the one ahead of it, by the chapter's bound and by what is below it.
func TestNoMore(t *testing.T) {
	parted(t, 7, 600, false, func(a asked, got api.State) {
		if !info.Right(got) || !bound.Below(got.M, a.s.M) || !below(got.M, a.s.M) {
			t.Errorf("P20.3: Cut(%v): %v is more", a, got)
		}
	})
}

// TestNoMoreAnywhere: in no direction is it more, not by the least: what was taken off, and next to nothing on its diagonal, is definite.
func TestNoMoreAnywhere(t *testing.T) {
	next := new(big.Rat).SetFrac(whole(1), new(big.Int).Lsh(whole(1), 400))
	parted(t, 8, 300, false, func(a asked, got api.State) {
		ahead, behind := square(a.s.M), square(got.M)
		for i := range ahead {
			for j := range ahead[i] {
				ahead[i][j] = less(ahead[i][j], behind[i][j])
			}
		}
		off := fractions(ahead)
		for i := range off {
			off[i][i] = new(big.Rat).Add(off[i][i], next)
		}
		if !reduced(off) {
			t.Errorf("P20.3: Cut(%v): %v is more in some direction", a, got)
		}
	})
}

// unsure tells how unsure m is in direction h: h times the x with m x = h.
func unsure(m api.Sym, h []int64) *big.Rat {
	x, _ := solved(m, h)
	sum := new(big.Rat)
	for i, v := range h {
		sum.Add(sum, new(big.Rat).Mul(x[i], big.NewRat(v, 1)))
	}
	return sum
}

// TestNoSurer: behind a cut nothing is surer: no number, and no direction.
func TestNoSurer(t *testing.T) {
	d := thrown(9)
	parted(t, 10, 200, true, func(a asked, got api.State) {
		n := got.M.N
		for i := range n + 3 {
			h := make([]int64, n)
			if i < n {
				h[i] = 1
			} else {
				h = vector(d, n, 300)
			}
			if unsure(got.M, h).Cmp(unsure(a.s.M, h)) < 0 {
				t.Errorf("P20.3: Cut(%v): %v is surer in direction %d", a, got, h)
			}
		}
	})
}

// TestBoundsStay: most that was kept ahead of a cut is kept behind it; least isn't, always, and is told.
func TestBoundsStay(t *testing.T) {
	parted(t, 11, 150, true, func(a asked, got api.State) {
		most := int64(1)
		for !bound.Most(a.s.M, most) {
			most *= 2
		}
		for step := most; step > 0; step /= 2 {
			if bound.Most(a.s.M, most-step) {
				most -= step
			}
		}
		if !bound.Most(got.M, most) || lastLeast(got.M) > lastLeast(a.s.M) {
			t.Errorf("P20.3: Cut(%v): %v", a, got)
		}
	})
}

// TestGone: behind a cut the Link is 0, and others are as they were; one more cut of it changes nothing.
func TestGone(t *testing.T) {
	parted(t, 12, 400, true, func(a asked, got api.State) {
		linkIs(t, got, a.slot, 0)
		for _, slot := range beacons(got.Row) {
			if want, _ := linkOf(a.s, slot); slot != a.slot {
				linkIs(t, got, slot, want)
			}
		}
		if _, err := info.Mean(got); err == nil {
			cutIs(t, asked{got, a.slot, 0}, got)
		}
	})
}

// TestExactMeanStays: where the mean is just whole numbers, it is the same behind a cut, whatever is cut.
func TestExactMeanStays(t *testing.T) {
	d, held := thrown(13), 0
	for i := range 300 {
		rows := orders()[1+i%15]
		n := sizeOf(rows)
		x := vector(d, n, 90000)
		m := heavy(d, n, 1+d.Int64N(1<<(1+d.IntN(28))))
		if i%4 == 0 {
			m = narrow(d, n, []int64{2, 50}[d.IntN(2)])
		}
		for _, slot := range beacons(rows) {
			got, err := cut(t, asked{placed(m, x, rows), slot, 0})
			if err != nil {
				continue
			}
			held++
			if !same(got, placed(got.M, x, rows)) {
				t.Errorf("P20.2: of %v at %d: V is %d", m, x, got.V)
			}
			mean, number := meant(got)
			for i, v := range mean {
				if number != 0 || v.Cmp(whole(x[i])) != 0 {
					t.Errorf("P20.2: of %v at %d: it is at %v behind a cut", m, x, mean)
				}
			}
		}
	}
	if held < 200 {
		t.Errorf("P20.2: %d cuts were taken", held)
	}
}

// TestMeanStaysNear: where each diagonal entry is more than the amounts beside it together by its n-th part, as it is behind the cut too, what the mean was rounded by moves it by 2 at most; each mean is rounded by a half.
func TestMeanStaysNear(t *testing.T) {
	d := thrown(14)
	for i := range 300 {
		rows := orders()[1+i%15]
		n := sizeOf(rows)
		s := api.State{M: heavy(d, n, int64(n)+d.Int64N(1<<(4+d.IntN(25)))), V: vector(d, n, 1<<(5+d.IntN(50))), Row: rows}
		for _, slot := range beacons(rows) {
			got := cuts(t, asked{s, slot, 0})
			ahead, err := info.Mean(s)
			behind, other := info.Mean(got)
			if err != nil || other != nil {
				t.Fatalf("P20.2: of %v: %v, %v", s, err, other)
			}
			for i, v := range behind {
				if max(v-ahead[i], ahead[i]-v) > 3 {
					t.Errorf("P20.2: Cut(%v, %d): %d instead of %d", s, slot, behind, ahead)
				}
			}
		}
	}
}

// TestOffByWhatWasRounded: behind a cut the exact solution is off the mean ahead of it by just as much as what was rounded makes: the new matrix times that is the old one times what was rounded.
func TestOffByWhatWasRounded(t *testing.T) {
	parted(t, 15, 200, true, func(a asked, got api.State) {
		ahead, _ := solved(a.s.M, a.s.V)
		behind, _ := solved(got.M, got.V)
		mean, _ := meant(a.s)
		for i := range mean {
			sum := new(big.Rat)
			for j, v := range mean {
				at := index(got.M.N, i, j)
				whole := new(big.Rat).SetInt(v)
				sum.Add(sum, new(big.Rat).Mul(big.NewRat(a.s.M.A[at], 1), new(big.Rat).Sub(ahead[j], whole)))
				sum.Sub(sum, new(big.Rat).Mul(big.NewRat(got.M.A[at], 1), new(big.Rat).Sub(behind[j], whole)))
			}
			if sum.Sign() != 0 {
				t.Errorf("P20.2: Cut(%v): %v: row %d is off by %v", a, got, i, sum)
			}
		}
	})
}

// TestAllCut: of three beacons that ranges linked to the vehicle the weakest is cut, and so on, till none is linked: each time less is known, and all is where it was.
func TestAllCut(t *testing.T) {
	s, err := info.New(api.Point{X: 1000, Y: -2000}, 1<<20)
	for slot, p := range []api.Point{{X: 60000, Y: 3000}, {X: -20000, Y: 50000}, {X: -30000, Y: -45000}} {
		if err == nil {
			s, err = info.Add(s, 2-slot, p, 1<<20)
		}
	}
	c := api.Config{Weight: 1, Gamma: 4096, Least: 1, Most: edge}
	for slot, r := range []int64{53009 + 30, 56080 - 20, 59211 + 10} {
		c.Weight++
		if err == nil {
			s, err = info.Fuse(s, c, slot, r)
		}
	}
	if err != nil {
		t.Fatalf("P20.3: %v", err)
	}
	start, err := info.Mean(s)
	if err != nil {
		t.Fatalf("P20.3: %v", err)
	}
	for _, want := range []int{0, 2, 1} {
		weakestIs(t, s, want)
		weakest, _ := sparse.Weakest(s)
		next := cuts(t, asked{s, weakest, 1 << 19})
		if !bound.Below(next.M, s.M) {
			t.Errorf("P20.3: behind %v: %v is more", s, next)
		}
		s = next
		mean, err := info.Mean(s)
		for i, v := range mean {
			if err != nil || max(v-start[i], start[i]-v) > 2 {
				t.Errorf("P20.2: behind the cut of %d: %d instead of %d", want, mean, start)
			}
		}
	}
	weakestIs(t, s, -1)
}
