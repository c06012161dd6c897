package info_test

import (
	"math"
	"slices"
	"testing"

	"leadline/api"
)

// two tells a vehicle and a beacon in that slot at these places, so surely.
func two(vehicle, beacon api.Point, slot int, sure int64) api.State {
	rows := [slots]int{-1, -1, -1}
	rows[slot] = 2
	return placed(even(4, sure), []int64{vehicle.X, vehicle.Y, beacon.X, beacon.Y}, rows)
}

// TestFuseTooNear: places a metre off one another, and a millimetre less; that is told ahead of the gate and the bounds.
func TestFuseTooNear(t *testing.T) {
	for _, way := range []api.Point{at(1000, 0), at(0, -1000), at(600, 800), at(-800, 600), at(708, 707), at(-281, -960)} {
		fuses(t, asked{two(at(5+way.X, 7+way.Y), at(5, 7), 2, 3), open(1), 2, 1000})
		fuses(t, asked{two(at(-farthest, 7), at(max(way.X, -way.X)-farthest, 7+way.Y), 2, 3), open(1), 2, 1000})
	}
	for _, way := range []api.Point{at(0, 0), at(1, 0), at(999, 0), at(0, -999), at(-600, 799), at(707, 707), at(-707, 707)} {
		for _, c := range []api.Config{open(1), config(heaviest, 1, edge, -edge)} {
			for _, r := range []int64{0, 999, 1000, longest} {
				fuseFails(t, asked{two(at(5+way.X, 7+way.Y), at(5, 7), 2, 3), c, 2, r}, api.ErrNear)
				fuseFails(t, asked{two(at(-farthest, 7), at(5-farthest, 7), 2, edge), c, 2, r}, 33)
			}
		}
	}
}

// TestFuseTooFar: a coordinate just at MaxPlace, and one past it, of either place; it is told ahead of too near, of the gate and the bounds.
func TestFuseTooFar(t *testing.T) {
	for _, sign := range []int64{1, -1} {
		near, end := sign*(farthest-3000), sign*farthest
		over := end + sign
		for _, x := range [][2]api.Point{{at(end, 0), at(near, 0)}, {at(near, 0), at(end, 0)}, {at(0, end), at(0, near)}, {at(0, near), at(0, end)}, {at(end, end), at(near, end)}} {
			fuses(t, asked{two(x[0], x[1], 0, 3), open(1), 0, 3000})
		}
		for _, x := range [][2]api.Point{{at(over, 0), at(near, 0)}, {at(near, 0), at(over, 0)}, {at(0, over), at(0, near)}, {at(0, near), at(0, over)}, {at(over, over), at(over, over)}, {at(over, 0), at(over, 0)}, {at(1<<33, 0), at(0, 0)}, {at(0, 0), at(0, -1<<33)}, {at(1<<54, 1<<54), at(-1<<54, 0)}} {
			for _, c := range []api.Config{open(1), config(heaviest, 1, edge, -edge)} {
				for _, r := range []int64{0, 3000, 3001, longest} {
					fuseFails(t, asked{two(x[0], x[1], 0, 3), c, 0, r}, 21)
				}
			}
		}
	}
}

// TestFuseOffTooFar: places so far off one another that a range, which is less, is off by more than a gate is told: that is gate's own error.
func TestFuseOffTooFar(t *testing.T) {
	s := two(at(farthest, 0), at(-farthest, 0), 1, 1) // 2 to the 23 off
	for _, r := range []int64{0, 1, longest} {
		for _, c := range []api.Config{open(1), config(heaviest, 1, edge, -edge)} {
			fuseFails(t, asked{s, c, 1, r}, api.ErrUnits)
		}
	}
	for _, x := range []struct{ x, r int64 }{{0, 0}, {-1, 0}, {-1, 1}, {-7, 7}, {-7, 6}, {-longest, longest}, {-longest - 1, longest}, {1, 0}} {
		far := two(at(1<<22, 0), at(x.x, 0), 1, 1)
		want := api.Errno(32)
		if x.r-(1<<22-x.x) < -1<<22 {
			want = 27
		}
		fuseFails(t, asked{far, open(1), 1, x.r}, want)
		fuseFails(t, asked{far, open(heaviest), 1, x.r}, want)
	}
}

// TestFuseGate: what is just at the gate, one nearer, one farther, off by less and by more and by nought.
func TestFuseGate(t *testing.T) {
	d := thrown(6)
	for range 60 {
		rows := orders()[1+d.IntN(15)]
		n := sizeOf(rows)
		x := vector(d, n, 700000)
		slot := slices.IndexFunc(rows[:], func(row int) bool { return row != -1 })
		x[0], x[rows[slot]] = 650000+d.Int64N(50000), -600000
		s := placed(heavy(d, n, 1+d.Int64N(1<<(1+d.IntN(23)))), x, rows)
		c := config(1+d.Int64N(1<<(1+d.IntN(11))), 1+d.Int64N(widest), math.MinInt64, math.MaxInt64)
		r, off := length(t, s, slot), lastOff(t, s, slot, c)
		for _, v := range []int64{0, 1, -1, off - 1, 1 - off, off, -off} {
			if r+v >= 0 && r+v <= longest && max(v, -v) <= off {
				fuses(t, asked{s, c, slot, r + v})
				fuseHolds(t, asked{s, c, slot, r + v})
			}
		}
		for _, v := range []int64{off + 1, -off - 1, off + 2, 2*off + 1} {
			if r+v >= 0 && r+v <= longest {
				fuseFails(t, asked{s, c, slot, r + v}, 32)
			}
		}
	}
	s := two(at(5000, 0), at(0, 0), 0, 32768) // the spread is 4: twice 2 to the 16, over 2 to the 15
	for _, v := range []int64{30, -30} {
		fuses(t, asked{s, config(2, 200, 1, edge), 0, 5000 + v}) // 900 is 200 times 4 and a half
		fuseFails(t, asked{s, config(2, 199, 1, edge), 0, 5000 + v}, api.ErrGate)
		fuseFails(t, asked{s, config(3, 200, 1, edge), 0, 5000 + v}, api.ErrGate)
		fuseFails(t, asked{s, config(2, 200, 1, edge), 0, 5000 + v + v/30}, api.ErrGate)
	}
}

// TestFuseEntry: an entry of the matrix that comes just to MaxEntry, and one past it; it is told ahead of the bounds.
func TestFuseEntry(t *testing.T) {
	for _, rows := range orders() {
		for slot, row := range rows {
			if row == -1 {
				continue
			}
			for _, x := range []struct{ i, weight, part int64 }{{0, 1, 154}, {1, 1, 205}, {0, 5, 154}, {1, heaviest, 205}} {
				for _, i := range []int{int(x.i), row + int(x.i)} {
					n := sizeOf(rows)
					places := make([]int64, n)
					places[0], places[1] = 3000, 4000
					for _, more := range []int64{-1, 0, 1, 2} {
						m := even(n, 1000)
						m.A[index(n, i, i)] = edge - x.weight*x.part*x.part + more
						a := asked{placed(m, places, rows), open(x.weight), slot, 5000}
						if more <= 0 {
							fuses(t, a)
							fuseHolds(t, a)
							continue
						}
						fuseFails(t, a, 21)
						a.c.Least, a.c.Most = edge, 0
						fuseFails(t, a, api.ErrOver)
					}
				}
			}
		}
	}
	s := with(spread([slots]int{2, 4, -1}, 5), 4, 4, edge) // the other beacon's: as great as it may be, and not changed
	fuses(t, asked{s, open(1), 0, length(t, s, 0)})
}

// brim tells a state whose V's number i, one of the vehicle's or of the beacon's in slot 0, is just so great that a range which is off by that makes it just MaxVector, either way: by another beacon that is very far off, in slot 1, and the greater of whose numbers the same matrix' row counts too.
func brim(t *testing.T, i int, sign, weight, off int64) (asked, bool) {
	t.Helper()
	const b = 1 << 27
	x := []int64{sign * 3000, sign * 4000, sign * 500, sign * 100, 0, 0}
	if i >= 2 { // its numbers become more just if it is to the other side
		x[0], x[1], x[2], x[3] = sign*500, sign*100, sign*3300, sign*4900
	}
	m := even(6, 1<<20)
	m.A[index(6, i, i)], m.A[index(6, i, 4)], m.A[index(6, 4, 4)] = 2*b, b, b
	h, r, number := row(x, 2)
	if number != 0 {
		t.Fatalf("P18.3: %d has no line", x)
	}
	more := measured(h, x, off, weight).Int64() * h[i]
	want := sign*top - more
	x[4] = (want - 2*b*x[i] + sign*b/2) / b
	s := placed(m, x, [slots]int{2, 4, -1})
	s.V[i] = want // it is what its row times x is, but for half of b at most
	mean, number := meant(s)
	return asked{s, config(weight, widest, 1, edge), 0, r + off}, number == 0 && slices.Equal(mean[:4], x[:4]) && more*sign > 0
}

// TestFuseVector: a number of V that comes just to MaxVector, one less, and one past it, either way; it is told ahead of the bounds.
func TestFuseVector(t *testing.T) {
	for i := range 4 {
		for _, sign := range []int64{1, -1} {
			tried := 0
			for _, weight := range []int64{1, 2, 3, 50, 99, 100, 101, heaviest} {
				for off := int64(-2); off <= 2; off++ {
					a, ok := brim(t, i, sign, weight, off)
					if !ok || weight > 100 && off*off > 1 {
						continue
					}
					tried++
					if got := fuses(t, a); len(got.V) == 6 && got.V[i] != sign*top {
						t.Errorf("P18.3: Fuse(%v): %d instead of MaxVector", a, got.V)
					}
					fuseHolds(t, a)
					fuseHolds(t, asked{told(a.s, i, a.s.V[i]-sign), a.c, a.slot, a.r})
					over := asked{told(a.s, i, a.s.V[i]+sign), a.c, a.slot, a.r}
					fuseFails(t, over, api.ErrOver)
					over.c.Least, over.c.Most = edge, 0
					fuseFails(t, over, 21)
					fuseHolds(t, asked{told(a.s, i, sign*top), a.c, a.slot, a.r})
				}
			}
			if tried < 8 {
				t.Errorf("P18.3: number %d came to MaxVector %d times", i, tried)
			}
		}
	}
}

// TestFuseVectorLess: a number of V that is MaxVector and becomes less, and one that is and stays.
func TestFuseVectorLess(t *testing.T) {
	rows := [slots]int{4, -1, 2} // the line is the one of slot 0
	const b = 1 << 27
	for _, sign := range []int64{1, -1} {
		m := even(6, 1<<20)
		m.A[index(6, 0, 0)], m.A[index(6, 0, 2)], m.A[index(6, 2, 2)] = 2*b, b, b
		s := placed(m, []int64{0, 4000, sign * top / b, 0, sign * 3000, 0}, rows) // the vehicle's is less where the beacon's is more
		if s.V[0] != sign*top || s.V[2] != sign*top {
			t.Fatalf("P18.3: %v isn't at the end", s)
		}
		a := asked{s, config(3, 9, 1, edge), 0, 5000}
		got := fuses(t, a)
		if len(got.V) != 6 || got.V[0]*sign >= top || got.V[2] != sign*top {
			t.Errorf("P18.3: Fuse(%v): %v", a, got)
		}
		fuseHolds(t, a)
	}
}

// last tells the bound nearest to fails that m keeps, or, of sign -1, that is kept from above; kept is one that is, fails one that isn't.
func last(m api.Sym, sign, kept, fails int64) int64 {
	for max(kept-fails, fails-kept) > 1 {
		mid := kept + (fails-kept)/2
		if keeps(m, sign, mid) {
			kept = mid
		} else {
			fails = mid
		}
	}
	return kept
}

// bounds tells the greatest least and the least most that a matrix keeps.
func bounds(m api.Sym) (int64, int64) {
	return last(m, 1, -1<<35, 1<<35), last(m, -1, 1<<35, -1<<35)
}

// TestFuseBounds: matrices that just keep the least and the most, and such as just don't; too loose is told ahead of too tight.
func TestFuseBounds(t *testing.T) {
	d := thrown(7)
	for i := range 60 {
		rows := orders()[1+i%15]
		slot := slices.IndexFunc(rows[:], func(row int) bool { return row != -1 })
		s := spread(rows, 5)
		if i >= 15 {
			s = placed(heavy(d, sizeOf(rows), 2+d.Int64N(1<<(1+d.IntN(25)))), s.V, rows)
			s.V = placed(s.M, vectorOf(rows), rows).V
		}
		r, c := length(t, s, slot), open(1+d.Int64N(1<<(1+d.IntN(8))))
		got := fuses(t, asked{s, c, slot, r})
		least, most := bounds(got.M)
		for _, x := range []struct {
			least, most int64
			want        api.Errno
		}{
			{least, most, 0}, {least + 1, most, 30}, {least, most - 1, 31}, {least + 1, most - 1, 30},
			{least - 1, most + 1, 0}, {math.MinInt64, most, 0}, {least, math.MaxInt64, 0},
			{math.MaxInt64, math.MaxInt64, 30}, {math.MinInt64, math.MinInt64, 31}, {math.MaxInt64, math.MinInt64, 30}, {0, 0, 31}, {1 << 32, 1 << 34, 30},
		} {
			a := asked{s, config(c.Weight, c.Gamma, x.least, x.most), slot, r}
			if x.want == 0 {
				fuseIs(t, a, got)
				continue
			}
			fuseFails(t, a, x.want)
		}
	}
}

// vectorOf tells the places that spread tells.
func vectorOf(rows [slots]int) []int64 {
	return spread(rows, 1).V
}

// TestFuseBoundsNew: it is the new matrix that has to keep the bounds, not the one ahead of it.
func TestFuseBoundsNew(t *testing.T) {
	s := two(at(3000, 4000), at(0, 0), 2, 10)
	least, most := bounds(s.M)
	fuseFails(t, asked{s, config(1, 1, least, most), 2, 5000}, 31) // the old one keeps these
	m := even(4, 10)
	m.A[0] = 100000
	loose := placed(m, []int64{3000, 0, 0, 0}, s.Row)
	fuseFails(t, asked{loose, config(1, 1, 10, edge), 2, 3000}, 30)
	fuses(t, asked{loose, config(1, 1, 9, edge), 2, 3000})
	s = known(4, []int64{200, 0, 199, 0, 200, 0, 0, 200, 0, 200}, []int64{3000 * 200, 0, 3000 * 199, 0}, -1, -1, 2)
	if keeps(s.M, 1, 1) || !keeps(s.M, 1, 0) {
		t.Fatalf("P18.3: %v is another matrix", s)
	}
	fuses(t, asked{s, config(1, 1, 199, edge), 2, 3000}) // the old one doesn't keep that, the new one does
	fuseFails(t, asked{s, config(1, 1, 200, edge), 2, 3000}, 30)
}

// TestFuseOrder: where two errors apply, the one that the chapter names first.
func TestFuseOrder(t *testing.T) {
	lax, strict := open(1), config(1, 1, edge, -edge)
	near, far := two(at(10, 0), at(0, 0), 0, 1), two(at(farthest+1, 0), at(0, 0), 0, 1)
	full := with(metres(0, 1000), 0, 0, edge)
	for _, x := range []struct {
		what string
		a    asked
		want api.Errno
	}{
		{"not right, no slot", asked{told(near, 0, top+1), open(0), 3, -1}, 23},
		{"no slot, a measure", asked{near, open(0), 3, -1}, 20},
		{"nobody, a measure", asked{near, open(0), 1, -1}, 36},
		{"nobody, loose", asked{with(near, 0, 0, 0), lax, 1, 5}, 36},
		{"a measure, loose", asked{with(near, 0, 0, 0), open(0), 0, 5}, 27},
		{"a measure, too near", asked{near, lax, 0, -1}, 27},
		{"a measure, too far", asked{far, config(1, 0, 0, 0), 0, 5}, 27},
		{"loose, the gate", asked{with(near, 3, 3, 0), strict, 0, longest}, 30},
		{"too far, the gate", asked{far, strict, 0, longest}, 21},
		{"too near, the gate", asked{near, strict, 0, longest}, 33},
		{"too near, an entry", asked{with(near, 1, 1, edge), strict, 0, 10}, 33},
		{"the gate, an entry", asked{full, config(heaviest, 1, 1, edge), 0, longest}, 32},
		{"the gate, the bounds", asked{metres(0, 1000), strict, 0, longest}, 32},
		{"an entry, the bounds", asked{placed(full.M, []int64{3000, 4000, 0, 0}, full.Row), strict, 0, 5000}, 21},
		{"too loose, too tight", asked{metres(0, 1000), strict, 0, 5000}, 30},
	} {
		got, err := fuse(t, x.a)
		noState(t, "P18.3: "+x.what, got, err, x.want)
		if _, number := fused(x.a); number != x.want {
			t.Errorf("P18.3: %s: the words tell %v instead of %v", x.what, number, x.want)
		}
	}
}
