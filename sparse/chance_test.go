package sparse_test

import (
	"math"
	"math/rand/v2"
	"testing"

	"leadline/api"
)

// matrixOf tells a matrix of n rows by chance: mostly definite, now and then with the greatest entries, or loose.
func matrixOf(d *rand.Rand, n int) api.Sym {
	switch d.IntN(8) {
	case 0, 1:
		return narrow(d, n, []int64{2, 50, 9000}[d.IntN(3)])
	case 2:
		m := heavy(d, n, edge/2)
		m.A[index(n, 0, 0)] = edge - d.Int64N(1<<(10+d.IntN(20)))
		return m
	case 3:
		return laid(n, func(i, j int) int64 { return upTo(d, 1<<(1+d.IntN(30))) })
	}
	return heavy(d, n, 1+d.Int64N(1<<(1+d.IntN(29))))
}

// byChance tells something to ask Cut by chance: what is wrong with it, if anything, is so by chance too.
func byChance(d *rand.Rand) asked {
	rows := orders()[d.IntN(len(orders()))]
	n := sizeOf(rows)
	m := matrixOf(d, n)
	s := api.State{M: m, V: vector(d, n, 1<<(1+d.IntN(56))), Row: rows}
	if d.IntN(3) == 0 { // numbers that cancel one another
		s = placed(m, vector(d, n, 1<<(1+d.IntN(26))), rows)
	}
	a := asked{s, d.IntN(slots), upTo(d, 1<<d.IntN(33))}
	switch d.IntN(16) {
	case 0:
		a.slot = slotless()[d.IntN(len(slotless()))]
	case 1:
		s.V[d.IntN(n)] = []int64{top, -top, top + 1, -top - 1}[d.IntN(4)]
	case 2:
		s.M.A[d.IntN(len(s.M.A))] = []int64{edge, -edge, edge + 1, -edge - 1}[d.IntN(4)]
	case 3:
		if i := index(n, 0, n-1); n > 2 {
			s.M.A[i] = 0
		}
	}
	if d.IntN(2) == 0 {
		a.least = free
	}
	return a
}

// TestByChance: all sorts of states by chance against the chapter's words: each error is told often, and so is a state.
func TestByChance(t *testing.T) {
	d, numbers := thrown(17), map[api.Errno]int{}
	for range 8000 {
		a := byChance(d)
		numbers[cutHolds(t, a)]++
		linkHolds(t, a.s, a.slot)
		weakestIs(t, a.s, weakestOf(a.s))
	}
	for _, number := range []api.Errno{0, 20, 21, 23, 30, 36} {
		if numbers[number] < 50 {
			t.Errorf("P20.2: %d times %v", numbers[number], number)
		}
	}
}

// TestSmall: all small links of small matrices, by all small numbers.
func TestSmall(t *testing.T) {
	for which := range 81 {
		l := [2][2]int64{{int64(which%3) - 1, int64(which/3%3) - 1}, {int64(which/9%3) - 1, int64(which/27) - 1}}
		for diagonal := int64(1); diagonal <= 4; diagonal++ {
			for v := int64(-2); v <= 2; v++ {
				for w := int64(-2); w <= 2; w++ {
					s := api.State{M: even(4, diagonal), V: []int64{v, 1, w, -v}, Row: [slots]int{-1, 2, -1}}
					for _, least := range []int64{free, -1, 0} {
						cutHolds(t, asked{linked(s, 2, l), 1, least})
					}
				}
			}
		}
	}
}

// TestManyByChance: cuts one behind another, of all beacons, each against the chapter's words.
func TestManyByChance(t *testing.T) {
	d, taken := thrown(18), 0
	for i := range 200 {
		rows := orders()[1+i%15]
		n := sizeOf(rows)
		s := api.State{M: heavy(d, n, 1+d.Int64N(1<<(1+d.IntN(29)))), V: vector(d, n, 1<<(1+d.IntN(50))), Row: rows}
		for weakest := weakestOf(s); weakest != -1; weakest = weakestOf(s) {
			a := asked{s, weakest, 0}
			if cutHolds(t, a) != 0 {
				break
			}
			s = cuts(t, a)
			taken++
		}
	}
	if taken < 300 {
		t.Errorf("P20.2: %d cuts were taken", taken)
	}
}

// odd tells a number of any kind: small ones, ends of limits and types.
func odd(d *rand.Rand) int64 {
	l := []int64{math.MinInt64, math.MinInt64 + 1, -top, -edge, -2, -1, 0, 1, 2, 4, 6, edge, top, top + 1, math.MaxInt64 - 1, math.MaxInt64}
	if d.IntN(3) == 0 {
		return int64(d.Uint64()) >> d.IntN(64)
	}
	return l[d.IntN(len(l))]
}

// odds tells up to most such numbers.
func odds(d *rand.Rand, most int) []int64 {
	var l []int64
	for range d.IntN(most + 1) {
		l = append(l, odd(d))
	}
	return l
}

// TestAnything: whatever is asked, it answers, by the chapter's words.
func TestAnything(t *testing.T) {
	d := thrown(19)
	for range 20000 {
		s := api.State{M: api.Sym{N: int(odd(d)), A: odds(d, 40)}, V: odds(d, 9)}
		for i := range s.Row {
			s.Row[i] = int(odd(d))
		}
		if d.IntN(4) != 0 {
			s.Row = orders()[d.IntN(len(orders()))]
			n := sizeOf(s.Row)
			s.M, s.V = laid(n, func(i, j int) int64 { return odd(d) % (edge + 2) }), make([]int64, n)
			for i := range s.V {
				s.V[i] = odd(d) % (top + 2)
			}
		}
		a := asked{s, int(odd(d)), odd(d)}
		if d.IntN(2) == 0 {
			a.slot = d.IntN(slots)
		}
		linkHolds(t, a.s, a.slot)
		weakestIs(t, a.s, weakestOf(a.s))
		cutHolds(t, a)
	}
}
