package info_test

import (
	"math"
	"slices"
	"testing"

	"leadline/api"
	"leadline/info"
)

// rowed tells s with that Row in that slot.
func rowed(s api.State, slot, row int) api.State {
	s = copied(s)
	s.Row[slot] = row
	return s
}

// sized tells s with a matrix of n rows; V has n numbers too, where there are so many.
func sized(s api.State, n int) api.State {
	s = copied(s)
	s.M = even(n, 5)
	s.V = make([]int64, max(n, 0))
	return s
}

// wrongMatrices tells states whose matrix isn't right, or is of another size than the beacons ask.
func wrongMatrices() []api.State {
	var l []api.State
	for _, rows := range orders() {
		n := sizeOf(rows)
		s := spread(rows, 5)
		for _, other := range []int{math.MinInt, -1 << 32, -n, -2, -1, 1 << 32, 1<<32 + n, 256 + n, math.MaxInt} { // A as n rows have it
			wrong := copied(s)
			wrong.M.N = other
			l = append(l, wrong)
		}
		for other := range 13 {
			if other != n {
				l = append(l, sized(s, other))
			}
		}
		for _, entries := range []int{0, 1, len(s.M.A) - 1, len(s.M.A) + 1, n * n} {
			wrong := copied(s)
			wrong.M.A = slices.Repeat([]int64{5}, entries)
			l = append(l, wrong)
		}
		for _, v := range []int64{edge + 1, -edge - 1, 1 << 32, 1<<32 + 5, math.MaxInt64, math.MinInt64, math.MinInt64 + 1} {
			for i := range n {
				l = append(l, with(s, i, i, v), with(s, i, n-1, v))
			}
		}
	}
	return l
}

// wrongVectors tells states whose V isn't as it should be.
func wrongVectors() []api.State {
	var l []api.State
	for _, rows := range orders() {
		n := sizeOf(rows)
		s := spread(rows, 5)
		for size := range 13 {
			if size != n {
				wrong := copied(s)
				wrong.V = make([]int64, size)
				l = append(l, wrong)
			}
		}
		wrong := copied(s)
		wrong.V = nil
		l = append(l, wrong)
		for i := range n {
			for _, v := range []int64{top + 1, -top - 1, 1 << 57, -1 << 57, 1 << 62, math.MaxInt64, math.MaxInt64 - 1, math.MinInt64, math.MinInt64 + 1} {
				l = append(l, told(s, i, v))
			}
		}
	}
	return l
}

// wrongRows tells states one of whose Rows isn't what it should be: named twice, odd, nought, too great, below -1; or -1, where there should be one, or the other way round.
func wrongRows() []api.State {
	var l []api.State
	for _, rows := range orders() {
		s := spread(rows, 5)
		for slot, row := range rows {
			for _, v := range []int{-8, -7, -6, -5, -4, -3, -2, -1, 0, 1, 2, 3, 4, 5, 6, 7, 8, 9, 10, 256 + 2, 256 + 4, 1<<32 + 2, 1<<32 - 1, -1 << 32, -1<<32 + 2, math.MinInt, math.MinInt + 1, math.MinInt + 2, math.MaxInt - 1, math.MaxInt} {
				if v != row {
					l = append(l, rowed(s, slot, v))
				}
			}
		}
	}
	for _, rows := range [][slots]int{{2, 2, -1}, {2, 2, 2}, {4, 4, 2}, {2, 4, 4}, {2, 4, 2}, {-1, 4, 4}, {0, 2, 4}, {0, 0, 0}, {-1, -1, 4}, {4, -1, 6}, {2, -1, 6}, {3, 5, 7}, {2, 5, 6}, {3, 4, 6}, {2, 4, 8}, {-1, 3, -1}, {1, 3, 5}, {-2, -2, -2}, {-1, -2, -3}, {6, 8, 10}, {-2, 2, 4}, {-2, -1, -1}, {0, -1, -1}} {
		for _, n := range []int{2, 4, 6, 8} { // as many rows as there are beacons, and others too
			s := sized(api.State{}, n)
			s.Row = rows
			l = append(l, s)
		}
	}
	return l
}

// wrongs tells states that aren't right.
func wrongs() []api.State {
	l := slices.Concat([]api.State{{}, {Row: [slots]int{-1, -1, -1}}}, wrongMatrices(), wrongVectors(), wrongRows())
	return slices.DeleteFunc(l, isRight) // a Row that is changed may be another right one
}

// TestRight: all ways in which beacons may stand, with matrices of all sorts, definite or not, and numbers up to the greatest, either way.
func TestRight(t *testing.T) {
	d := thrown(1)
	for _, rows := range orders() {
		n := sizeOf(rows)
		for _, m := range []api.Sym{even(n, 5), even(n, 0), even(n, -5), even(n, edge), even(n, -edge), heavy(d, n, edge), narrow(d, n, 50), laid(n, func(i, j int) int64 { return edge }), laid(n, func(i, j int) int64 { return -edge })} {
			for _, v := range [][]int64{make([]int64, n), vector(d, n, top), slices.Repeat([]int64{top}, n), slices.Repeat([]int64{-top}, n), slices.Repeat([]int64{1 - top}, n)} {
				s := api.State{M: m, V: v, Row: rows}
				was := copied(s)
				if !isRight(s) || !info.Right(s) {
					t.Errorf("P18.1: Right(%v): false", s)
				}
				stays(t, "P18.1: Right", s, was)
			}
		}
		s := spread(rows, 5)
		for i := range n {
			for _, v := range []int64{top, -top, top - 1, 1 - top, 0} {
				if !info.Right(told(s, i, v)) {
					t.Errorf("P18.1: Right(%v): false", told(s, i, v))
				}
			}
		}
	}
}

// TestNotRight: states that aren't right: Right is false, and all calls tell ErrSize of them, whatever else is asked.
func TestNotRight(t *testing.T) {
	l := wrongs()
	if len(l) < 1500 {
		t.Errorf("P18.1: there are %d states that aren't right", len(l))
	}
	for _, s := range l {
		was := copied(s)
		if info.Right(s) {
			t.Errorf("P18.1: Right(%v): true", s)
		}
		stays(t, "P18.1: Right", s, was)
		meanFails(t, s, api.ErrSize)
		for _, slot := range []int{-1, 0, 1, 2, 3, -2, math.MinInt, math.MaxInt} {
			placeFails(t, s, slot, 23)
			addFails(t, s, slot, at(5, 7), 9, 23)
			addFails(t, s, slot, at(farthest+1, math.MinInt64), 0, 23)
			fuseFails(t, asked{s, open(3), slot, 5000}, 23)
			fuseFails(t, asked{s, api.Config{}, slot, -1}, 23)
		}
	}
}

// TestRightByChance: rows, sizes by chance: right is what the chapter's words say.
func TestRightByChance(t *testing.T) {
	d, some := thrown(2), 0
	for range 200000 {
		s := api.State{}
		for slot := range s.Row {
			s.Row[slot] = []int{-1, -1, 2, 4, 6, 2, 4, 6, d.IntN(12) - 3}[d.IntN(9)]
		}
		n := 2 * d.IntN(5)
		s.M, s.V = even(n, 5), vector(d, n, top)
		if want := isRight(s); info.Right(s) != want {
			t.Errorf("P18.1: Right(%v): %v", s, !want)
		} else if want {
			some++
		}
	}
	if some < 5000 {
		t.Errorf("P18.1: %d were right", some)
	}
}
