package sparse_test

import (
	"math"
	"testing"

	"leadline/api"
)

// pulled tells a state of n rows whose row i is linked to row j by that, 10 and 1 on their diagonal entries, 5 on all others; where i is is told by v, j is twice as far on the other side, so that i's number of V is some ninth more behind a cut. One of the two is the vehicle's, the other one a beacon's.
func pulled(n, i, j int, link, v int64) api.State {
	s := with(with(with(api.State{M: even(n, 5), V: make([]int64, n), Row: rowsOf(n)}, i, i, 10), j, j, 1), i, j, link)
	return told(told(s, i, v), j, -link*(v/8)) // means of v / 8, and twice that
}

// rowsOf tells rows of beacons of a state of n numbers: that of the lowest slot is the last one.
func rowsOf(n int) [slots]int {
	rows := [slots]int{-1, -1, -1}
	for slot := range n/2 - 1 {
		rows[slot] = n - 2 - 2*slot
	}
	return rows
}

// slotAt tells the slot of the beacon whose row i is.
func slotAt(s api.State, i int) int {
	for slot, row := range s.Row {
		if row == i-i%2 {
			return slot
		}
	}
	return -1
}

// tooGreat tells how many entries and numbers the chapter's words make too great, and what they make of number i of V.
func tooGreat(t *testing.T, a asked, i int) (int, int64) {
	t.Helper()
	mean, number := meant(a.s)
	if number != 0 {
		t.Fatalf("P20.2: %v has no mean", a.s)
	}
	rows, numbers := behind(a.s, a.slot, mean)
	many := 0
	for r, row := range rows {
		for _, v := range row[r:] {
			if v.CmpAbs(whole(edge)) > 0 {
				many++
			}
		}
		if numbers[r].CmpAbs(whole(top)) > 0 {
			many++
		}
	}
	return many, numbers[i].Int64()
}

// brims holds a number of V that comes just to end, one and two less, one and two past it, all else being no greater than it may be; past it that is told ahead of least. about tells a state whose number i comes near to what it is told.
func brims(t *testing.T, end int64, slot, i int, about func(v int64) api.State) {
	t.Helper()
	sign := int64(1)
	if end < 0 {
		sign = -1
	}
	held := map[int64]bool{}
	for v := end - 30; v <= end+30; v++ {
		a := open(about(v), slot)
		if !isRight(a.s) {
			continue
		}
		many, number := tooGreat(t, a, i)
		past := (number - end) * sign
		switch {
		case past > 2 || past < -2:
			continue
		case past > 0:
			if many != 1 {
				t.Fatalf("P20.2: of %v %d numbers are too great", a, many)
			}
			cutFails(t, a, api.ErrOver)
			a.least = math.MaxInt64
			cutFails(t, a, 21)
		default:
			if got := cuts(t, a); got.V[i] != number {
				t.Errorf("P20.2: Cut(%v): %v", a, got)
			}
			cutHolds(t, a)
		}
		held[past] = true
	}
	if len(held) != 5 {
		t.Errorf("P20.2: number %d near %d: %v", i, end, held)
	}
}

// TestNumbers: numbers of V come to both ends: of each of the vehicle's rows, of each row of each beacon that is cut.
func TestNumbers(t *testing.T) {
	for n := 4; n <= api.MaxDim; n += 2 {
		for p := range 2 {
			for r := 2; r < n; r++ {
				for _, end := range []int64{top, -top} {
					for _, link := range []int64{1, -1} {
						vehicle := func(v int64) api.State { return pulled(n, p, r, link, v/9*8+v%9) }
						brims(t, end, slotAt(vehicle(9), r), p, vehicle)
						beacon := func(v int64) api.State { return pulled(n, r, p, link, v/9*8+v%9) }
						brims(t, end, slotAt(beacon(9), r), r, beacon)
					}
				}
			}
		}
	}
}

// TestOthersNumbers: another beacon's number of V that is just MaxVector stays, however much is taken off beside it; one past it isn't right.
func TestOthersNumbers(t *testing.T) {
	for n := 6; n <= api.MaxDim; n += 2 {
		for r := 2; r < n; r++ {
			for other := 2; other < n; other++ {
				for _, end := range []int64{top, -top} {
					s := told(pulled(n, r%2, r, 1, 8000), other, end)
					if slotAt(s, r) == slotAt(s, other) {
						continue
					}
					a := open(s, slotAt(s, r))
					cutHolds(t, a)
					if got := cuts(t, a); got.V[other] != end || got.V[r%2] == s.V[r%2] {
						t.Errorf("P20.2: Cut(%v): %v", a, got)
					}
					a.s = told(s, other, end+end/top)
					cutFails(t, a, api.ErrSize)
				}
			}
		}
	}
}

// TestFarBeyond64Bits: what is taken off has some 88 bits, and is nothing together, for the vehicle's row, and for the beacon's: what was top stays so. And such as is far too great, of which 64 bits alone would be small.
func TestFarBeyond64Bits(t *testing.T) {
	for n := 4; n <= api.MaxDim; n += 2 {
		for p := range 2 {
			for r := 2; r < n; r++ {
				for _, sign := range []int64{1, -1} {
					s := api.State{M: even(n, 5), V: make([]int64, n), Row: rowsOf(n)}
					s = with(with(with(s, p, p, edge), r, r, edge-1), p, r, sign*(edge-1))
					a := open(told(s, p, top), slotAt(s, r)) // the mean is top, and as much on the other side
					cutIs(t, a, with(with(with(a.s, p, p, 1), r, r, 0), p, r, 0))
					a.s = told(told(s, p, top-1), r, sign)
					cutHolds(t, a)
					a.s = told(with(with(told(s, p, 0), p, p, edge-1), r, r, edge), r, -top) // likewise, the beacon's being the greater one
					cutHolds(t, a)
				}
			}
			for r := 2; r < n; r += 2 {
				for _, half := range []int64{1 << 33, 1 << 34, 1 << 40, 1 << 55, -1 << 33, -1 << 55} { // 2 to the 31 times that, less twice that: what 64 bits have of it is small
					s := api.State{M: even(n, 5), V: make([]int64, n), Row: rowsOf(n)}
					s = with(with(with(s, p, p, edge-1), p, r, edge-1), p, r+1, edge-1)
					s = with(with(with(s, r, r, edge), r+1, r+1, edge), r, r+1, edge-1)
					a := open(told(told(s, r, -half), r+1, -half), slotAt(s, r)) // the mean is twice that, less that, less that
					cutFails(t, a, api.ErrOver)
					cutHolds(t, a)
				}
			}
		}
	}
}

// TestDiagonals: diagonal entries of the vehicle's rows, and of the beacon's, that come to -MaxEntry and one more, which is the least that one of a definite matrix comes to; and greatest links.
func TestDiagonals(t *testing.T) {
	for n := 4; n <= api.MaxDim; n += 2 {
		for row := 2; row < n; row += 2 {
			for p := range 2 {
				for _, i := range []int{p, row + p} { // linked as strongly as may be to the other one's two rows, which are to one another
					one, two := row, row+1
					if i >= 2 {
						one, two = 0, 1
					}
					s := with(with(with(api.State{M: even(n, 1), V: make([]int64, n), Row: rowsOf(n)}, one, one, edge), two, two, edge), one, two, edge-1)
					s = with(with(with(s, i, i, edge-1), i, one, edge-1), i, two, edge-1)
					a := open(s, slotAt(s, row))
					got := cuts(t, a)
					if v := got.M.A[index(n, i, i)]; v != 1-edge {
						t.Errorf("P20.2: Cut(%v): %d at %d", a, v, i)
					}
					cutHolds(t, a)
					cutHolds(t, open(told(told(s, one, 7), i, -5), a.slot))
					cutFails(t, open(with(s, i, i, edge-2), a.slot), api.ErrLoose) // one less isn't definite: the mean's error
					cutIs(t, asked{s, a.slot, lastLeast(got.M)}, got)
					cutFails(t, asked{s, a.slot, lastLeast(got.M) + 1}, 30)
				}
			}
		}
	}
}

// TestNotDefinite: states that aren't definite, by much, by one, by a beacon alone: the mean's error, ahead of what is too great, and of least.
func TestNotDefinite(t *testing.T) {
	for _, rows := range orders() {
		n := sizeOf(rows)
		for _, slot := range beacons(rows) {
			row := rows[slot]
			s := linked(spread(rows, 5), row, [2][2]int64{{1, 0}, {2, -1}})
			cuts(t, open(s, slot))
			l := []api.State{linked(s, row, [2][2]int64{{edge, -edge}, {edge, edge}}), linked(spread(rows, -edge), row, [2][2]int64{{edge, -edge}, {edge, edge}}), with(s, 0, row, 6), with(s, 1, row+1, -5)}
			for i := range n {
				l = append(l, with(s, i, i, 0), with(s, i, i, -1), with(s, i, i, -edge))
			}
			for _, loose := range l {
				if keeps(loose.M, 0) {
					t.Errorf("P20.2: %v is definite", loose)
				}
				for _, least := range []int64{free, -1 << 40, 0, 1, math.MaxInt64} {
					cutFails(t, asked{loose, slot, least}, api.ErrLoose)
				}
			}
		}
	}
	s := known(4, []int64{4, 0, 6, 0, 1, 0, 0, 9, 0, 1}, make([]int64, 4), 2, -1, -1) // 4, 6, 9: the determinant is nought
	cutFails(t, open(s, 0), 30)
	cutIs(t, open(with(s, 2, 2, 10), 0), known(4, []int64{-2, 0, 0, 0, 1, 0, 0, 4, 0, 1}, make([]int64, 4), 2, -1, -1))
}

// TestMeanOver: a mean that is just top, and one past it: its error, ahead of least; the slot's link is another one's.
func TestMeanOver(t *testing.T) {
	for _, rows := range orders() {
		for _, slot := range beacons(rows) {
			for q := range 2 {
				s := api.State{M: even(sizeOf(rows), 9), V: make([]int64, sizeOf(rows)), Row: rows}
				s = vehicled(with(with(s, 0, 1, 3), 0, rows[slot]+q, 1), [3]int64{2, -1, 1}, 0, 0)
				for v := int64(0); v < 8; v++ {
					cutHolds(t, open(told(told(s, 0, top/2), 1, top/4-2+v), slot))
				}
				cutFails(t, open(told(told(s, 0, top), 1, top), slot), api.ErrOver)
				cutFails(t, asked{told(told(s, 0, -top), 1, -top), slot, math.MaxInt64}, 21)
			}
		}
	}
}

// TestLeast: matrices that just keep least behind the cut, and such as just don't; least of nought, below it, at the ends of its type.
func TestLeast(t *testing.T) {
	d, signs := thrown(5), map[bool]int{}
	for i := range 60 {
		rows := orders()[1+i%15]
		n := sizeOf(rows)
		for _, slot := range beacons(rows) {
			s := links(rows)[3]
			if i >= 15 {
				s = api.State{M: heavy(d, n, 2+d.Int64N(1<<(1+d.IntN(29)))), V: vector(d, n, 90000), Row: rows}
			}
			if i >= 45 {
				s = placed(narrow(d, n, 50), vector(d, n, 90000), rows)
			}
			got := cuts(t, open(s, slot))
			least := lastLeast(got.M)
			signs[least < 0]++
			for _, keeps := range []int64{least, least - 1, least - 1000, -1 << 33, math.MinInt64 + 1, math.MinInt64} {
				cutIs(t, asked{s, slot, keeps}, got)
			}
			for _, fails := range []int64{least + 1, least + 2, least + 1000, 1 << 33, math.MaxInt64 - 1, math.MaxInt64} {
				cutFails(t, asked{s, slot, fails}, api.ErrLoose)
			}
			for _, small := range []int64{0, -1, 1} {
				cutHolds(t, asked{s, slot, small})
			}
		}
	}
	if signs[true] < 10 || signs[false] < 10 {
		t.Errorf("P20.2: %v", signs)
	}
}

// TestLeastOfWhatIsBehind: it is the matrix behind the cut that has to keep least, not the one ahead of it.
func TestLeastOfWhatIsBehind(t *testing.T) {
	s := known(4, []int64{100, 0, 30, 0, 90, 0, 0, 70, 0, 80}, make([]int64, 4), 2, -1, -1)
	want := known(4, []int64{70, 0, 0, 0, 90, 0, 0, 40, 0, 80}, make([]int64, 4), 2, -1, -1)
	cutIs(t, asked{s, 0, 39}, want)
	cutFails(t, asked{s, 0, 40}, 30)
	if !keeps(s.M, 40) {
		t.Errorf("P20.2: %v doesn't keep 40", s)
	}
	s = known(4, []int64{10, 0, 9, 0, 10, 0, 0, 10, 0, 10}, make([]int64, 4), -1, -1, 2)
	want = known(4, []int64{1, 0, 0, 0, 10, 0, 0, 1, 0, 10}, make([]int64, 4), -1, -1, 2)
	cutIs(t, asked{s, 2, 0}, want)
	cutFails(t, asked{s, 2, 1}, 30)
	s = known(4, []int64{10, 0, 11, 0, 10, 0, 0, 13, 0, 10}, make([]int64, 4), -1, -1, 2) // definite ahead of it, not behind it
	cutFails(t, asked{s, 2, 0}, 30)
	cutFails(t, asked{s, 2, -1}, 30)
	cutIs(t, asked{s, 2, -2}, known(4, []int64{-1, 0, 0, 0, 10, 0, 0, 2, 0, 10}, make([]int64, 4), -1, -1, 2))
}

// TestSlots: what is no slot, and slots where no beacon is, ahead of all that comes behind.
func TestSlots(t *testing.T) {
	for _, rows := range orders() {
		n := sizeOf(rows)
		for _, s := range []api.State{spread(rows, 5), links(rows)[3], {M: even(n, -edge), V: make([]int64, n), Row: rows}, {M: even(n, 0), V: vector(thrown(6), n, top), Row: rows}} {
			for _, least := range []int64{free, 0, math.MaxInt64} {
				for _, slot := range slotless() {
					cutFails(t, asked{s, slot, least}, api.ErrRange)
				}
				cutFails(t, asked{s, -1, least}, 20)
				cutFails(t, asked{s, 3, least}, 20)
				for slot, row := range rows {
					if row == -1 {
						cutFails(t, asked{s, slot, least}, api.ErrNone)
					}
				}
			}
		}
	}
}

// TestOrder: where two errors apply, the one that the chapter names first.
func TestOrder(t *testing.T) {
	s := known(4, []int64{100, 0, 30, 0, 90, 0, 0, 70, 0, 80}, make([]int64, 4), 2, -1, -1)
	over := with(vehicled(s, [3]int64{2, -1, 1}, top, top), 0, 2, 0)
	far := pulled(4, 0, 2, 1, top/9*8+9)
	for _, x := range []struct {
		what string
		a    asked
		want api.Errno
	}{
		{"not right, no slot", asked{api.State{}, -1, 0}, 23},
		{"not right, nobody", open(told(s, 0, top+1), 1), 23},
		{"not right, not definite", open(with(told(s, 0, top+1), 0, 0, -5), 0), 23},
		{"not right, least", asked{with(s, 0, 0, edge+1), 0, math.MaxInt64}, 23},
		{"no slot, not definite", open(with(s, 0, 0, -5), 3), 20},
		{"no slot, the mean", open(over, -1), 20},
		{"no slot, least", asked{s, 3, math.MaxInt64}, 20},
		{"nobody, not definite", open(with(s, 0, 0, -5), 1), 36},
		{"nobody, the mean", open(over, 2), 36},
		{"nobody, least", asked{s, 1, math.MaxInt64}, 36},
		{"not definite, a number of the mean", open(with(over, 3, 3, 0), 0), 30},
		{"not definite, a number of V", open(with(far, 3, 3, 0), 0), 30},
		{"the mean, least", asked{over, 0, math.MaxInt64}, 21},
		{"a number of V, least", asked{far, 0, math.MaxInt64}, 21},
		{"least", asked{s, 0, math.MaxInt64}, 30},
	} {
		cutFails(t, x.a, x.want)
		if _, number := cutOf(x.a); number != x.want {
			t.Errorf("P20.2: %s: the words tell %v instead of %v", x.what, number, x.want)
		}
	}
}
