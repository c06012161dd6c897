package info_test

import (
	"math"
	"slices"
	"testing"

	"leadline/api"
	"leadline/info"
	"leadline/solve"
)

// TestPlaceKnown: places that are written down: of halves the greater number, of beacons' slots in each order the beacon's own.
func TestPlaceKnown(t *testing.T) {
	s := known(2, []int64{2, 0, 4}, []int64{3, -6}, -1, -1, -1)
	meanIs(t, s, 2, -1) // 3 over 2, -3 over 2
	placeIs(t, s, -1, at(2, -1))
	s = known(4, []int64{2, 1, 0, 0, 2, 0, 0, 10, 3, 1}, []int64{3, 3, 25, 8}, -1, 2, -1)
	meanIs(t, s, 1, 1, 1, 5)
	placeIs(t, s, -1, at(1, 1))
	placeFails(t, s, 0, api.ErrNone)
	placeIs(t, s, 1, at(1, 5))
	placeFails(t, s, 2, api.ErrNone)
	for _, rows := range orders() {
		s := spread(rows, 3)
		placeIs(t, s, -1, at(1000, -2000))
		for slot, row := range rows {
			if row == -1 {
				placeFails(t, s, slot, 36)
				continue
			}
			placeIs(t, s, slot, []api.Point{at(-50000, 60000), at(70000, 80000), at(90000, -100000)}[row/2-1])
		}
	}
}

// TestNoSuchSlot: what is no slot, of states of no beacon up to all of them, also where a measure may not be, or a matrix is loose.
func TestNoSuchSlot(t *testing.T) {
	for _, rows := range orders() {
		for _, sure := range []int64{0, 5, edge} {
			s := placed(even(sizeOf(rows), sure), make([]int64, sizeOf(rows)), rows)
			for _, slot := range slotless() {
				if slot != -1 {
					placeFails(t, s, slot, api.ErrRange)
				}
				addFails(t, s, slot, at(5, 7), 9, 20)
				addFails(t, s, slot, at(5, math.MinInt64), 0, 20)
				fuseFails(t, asked{s, open(3), slot, 5000}, 20)
				fuseFails(t, asked{s, api.Config{}, slot, -1}, 20)
			}
		}
	}
}

// TestNobodyThere: slots where no beacon is; that is told ahead of what the mean has to say, and of a measure that may not be.
func TestNobodyThere(t *testing.T) {
	for _, rows := range orders() {
		n := sizeOf(rows)
		for _, s := range []api.State{spread(rows, 5), placed(even(n, 0), make([]int64, n), rows), {M: even(n, 1), V: slices.Repeat([]int64{top}, n), Row: rows}} {
			for slot, row := range rows {
				if row != -1 {
					continue
				}
				placeFails(t, s, slot, 36)
				fuseFails(t, asked{s, open(3), slot, 5000}, 36)
				fuseFails(t, asked{s, open(0), slot, 5000}, 36)
				fuseFails(t, asked{s, api.Config{}, slot, math.MinInt64}, 36)
			}
		}
	}
}

// TestMeanLoose: a matrix that isn't definite, and one that is by one.
func TestMeanLoose(t *testing.T) {
	for _, rows := range orders() {
		n := sizeOf(rows)
		zero := make([]int64, n)
		for _, m := range []api.Sym{even(n, 0), even(n, -1), even(n, -edge), laid(n, func(i, j int) int64 { return edge })} {
			meanFails(t, api.State{M: m, V: zero, Row: rows}, api.ErrLoose)
			meanHolds(t, api.State{M: m, V: zero, Row: rows})
		}
		s := spread(rows, 3)
		for i := range n {
			meanHolds(t, with(s, i, i, 0))
			meanHolds(t, with(s, i, i, -1))
			meanHolds(t, with(s, i, i, 1))
			if i > 0 {
				meanHolds(t, with(s, 0, i, 3))
				meanHolds(t, with(s, 0, i, -3))
				meanHolds(t, with(s, 0, i, 2))
			}
		}
	}
	s := known(2, []int64{edge, edge - 1, edge - 1}, []int64{edge, edge - 1}, -1, -1, -1) // the determinant is 2 to the 30 less 1
	meanIs(t, s, 1, 0)
	meanIs(t, known(2, []int64{2, 3, 5}, []int64{7, 11}, -1, -1, -1), 2, 1) // it is 1
	meanFails(t, with(s, 0, 1, edge), 30)
	meanFails(t, with(s, 1, 1, edge-2), 30) // it is -1
	meanFails(t, known(2, []int64{4, 6, 9}, []int64{2, 3}, -1, -1, -1), 30)
}

// TestMeanOver: numbers of the mean that come just to MaxVector, and one past it, and far.
func TestMeanOver(t *testing.T) {
	for _, rows := range orders() {
		n := sizeOf(rows)
		s := placed(even(n, 1), make([]int64, n), rows)
		for i := range n {
			want := make([]int64, n)
			for _, v := range []int64{top, -top} {
				want[i] = v
				meanIs(t, told(s, i, v), want...)
			}
			meanHolds(t, told(s, i, top))
		}
	}
	half := []int64{2, -1, 1} // by 1, 1, 2: the second number is v_0 and twice v_1
	meanIs(t, known(2, half, []int64{top - 2, 1}, -1, -1, -1), top-1, top)
	meanFails(t, known(2, half, []int64{top - 1, 1}, -1, -1, -1), api.ErrOver)
	meanFails(t, known(2, half, []int64{1 - top, -1}, -1, -1, -1), 21)
	meanIs(t, known(2, half, []int64{2 - top, -1}, -1, -1, -1), 1-top, -top)
	great := known(2, []int64{edge, edge - 1, edge - 1}, []int64{top, -top}, -1, -1, -1) // the first number is v_0 less v_1
	meanFails(t, great, 21)
	placeFails(t, great, -1, 21)
	meanFails(t, told(great, 1, -1), 21)
	for _, v := range []int64{0, 1, 1 << 20, top / 2, top} {
		meanHolds(t, told(great, 1, v))
		meanHolds(t, told(told(great, 0, -top), 1, v))
	}
}

// TestMeanByChance: states of all sizes by chance, definite and not, with numbers up to the greatest.
func TestMeanByChance(t *testing.T) {
	d, numbers := thrown(3), map[api.Errno]int{}
	for range 500 {
		rows := orders()[d.IntN(len(orders()))]
		n := sizeOf(rows)
		m := heavy(d, n, 1+d.Int64N(1<<(1+d.IntN(30))))
		switch d.IntN(4) {
		case 0:
			m = narrow(d, n, []int64{2, 50, 9000}[d.IntN(3)])
		case 1:
			m = laid(n, func(i, j int) int64 { return upTo(d, edge) })
		}
		s := api.State{M: m, V: vector(d, n, []int64{3, 1 << 20, 1 << 40, top}[d.IntN(4)]), Row: rows}
		meanHolds(t, s)
		_, number := meant(s)
		numbers[number]++
		near, err := solve.Near(s.M, s.V)
		mean, other := info.Mean(s)
		if (err == nil) != (other == nil) || !slices.Equal(near, mean) {
			t.Errorf("P18.2: Mean(%v): %d, %v instead of %d, %v", s, mean, other, near, err)
		}
	}
	for _, number := range []api.Errno{0, 21, 30} {
		if numbers[number] < 20 {
			t.Errorf("P18.2: %d times %v", numbers[number], number)
		}
	}
}
