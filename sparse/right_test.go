package sparse_test

import (
	"math"
	"slices"
	"testing"

	"leadline/api"
)

// rowed tells s with that Row in that slot.
func rowed(s api.State, slot, row int) api.State {
	s = copied(s)
	s.Row[slot] = row
	return s
}

// wrongMatrices tells states whose matrix isn't right, or is of another size than the beacons ask.
func wrongMatrices() []api.State {
	var l []api.State
	for _, rows := range orders() {
		n := sizeOf(rows)
		s := spread(rows, 5)
		for _, other := range []int{math.MinInt, -1 << 32, -n, -2, -1, 1 << 32, 1<<32 + n, 256 + n, math.MaxInt} { // A as n rows have it
			wrong := copied(s)
			wrong.M.N = other
			l = append(l, wrong)
		}
		for other := range 13 {
			wrong := copied(s)
			wrong.M, wrong.V = even(other, 5), make([]int64, other)
			l = append(l, wrong)
		}
		for _, entries := range []int{0, 1, len(s.M.A) - 1, len(s.M.A) + 1, n * n} {
			wrong := copied(s)
			wrong.M.A = slices.Repeat([]int64{5}, entries)
			l = append(l, wrong)
		}
		for _, v := range []int64{edge + 1, -edge - 1, 1 << 32, 1<<32 + 5, math.MaxInt64, math.MinInt64, math.MinInt64 + 1} {
			for i := range n {
				l = append(l, with(s, i, i, v), with(s, i, n-1, v))
			}
		}
	}
	return l
}

// wrongVectors tells states whose V isn't as it should be.
func wrongVectors() []api.State {
	var l []api.State
	for _, rows := range orders() {
		s := spread(rows, 5)
		for size := range 13 {
			wrong := copied(s)
			wrong.V = make([]int64, size)
			l = append(l, wrong)
		}
		wrong := copied(s)
		wrong.V = nil
		l = append(l, wrong)
		for i := range s.V {
			for _, v := range []int64{top + 1, -top - 1, 1 << 57, 1 << 62, math.MaxInt64, math.MinInt64, math.MinInt64 + 1} {
				l = append(l, told(s, i, v))
			}
		}
	}
	return l
}

// wrongRows tells states one of whose Rows isn't what it should be: named twice, odd, nought, too great, below -1; or -1, where there should be one, or the other way round.
func wrongRows() []api.State {
	var l []api.State
	for _, rows := range orders() {
		for slot := range rows {
			for _, v := range []int{-8, -4, -3, -2, -1, 0, 1, 2, 3, 4, 5, 6, 7, 8, 9, 256 + 2, 1<<32 + 2, 1<<32 - 1, -1 << 32, math.MinInt, math.MinInt + 2, math.MaxInt - 1, math.MaxInt} {
				l = append(l, rowed(spread(rows, 5), slot, v))
			}
		}
	}
	for _, rows := range [][slots]int{{2, 2, -1}, {2, 2, 2}, {2, 4, 4}, {-1, 4, 4}, {0, 2, 4}, {0, 0, 0}, {-1, -1, 4}, {4, -1, 6}, {3, 5, 7}, {2, 4, 8}, {-1, 3, -1}, {-2, -2, -2}, {6, 8, 10}, {-2, 2, 4}, {-2, -1, -1}, {0, -1, -1}} {
		for _, n := range []int{2, 4, 6, 8} { // as many rows as there are beacons, and others too
			l = append(l, api.State{M: even(n, 5), V: make([]int64, n), Row: rows})
		}
	}
	return l
}

// wrongs tells states that aren't right.
func wrongs() []api.State {
	l := slices.Concat([]api.State{{}, {Row: [slots]int{-1, -1, -1}}}, wrongMatrices(), wrongVectors(), wrongRows())
	return slices.DeleteFunc(l, isRight) // what is changed may be another right one
}

// TestNotRight: states that aren't right, whatever else is asked.
func TestNotRight(t *testing.T) {
	l := wrongs()
	if len(l) < 1500 {
		t.Errorf("P20.2: there are %d states that aren't right", len(l))
	}
	for _, s := range l {
		for slot := -1; slot <= slots; slot++ {
			cutFails(t, open(s, slot), api.ErrSize)
		}
		cutFails(t, asked{s, 0, math.MaxInt64}, 23)
		cutFails(t, asked{s, math.MinInt, math.MaxInt64}, 23)
	}
}
