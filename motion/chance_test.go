package motion_test

import (
	"math"
	"math/rand/v2"
	"testing"

	"leadline/api"
)

// matrixOf tells a matrix of n rows by chance: mostly definite, now and then with the greatest entries, or loose.
func matrixOf(d *rand.Rand, n int) api.Sym {
	switch d.IntN(8) {
	case 0:
		return narrow(d, n, []int64{2, 50, 9000}[d.IntN(3)])
	case 1:
		m := heavy(d, n, edge/2)
		m.A[index(n, 0, 0)] = edge - d.Int64N(1<<(10+d.IntN(20)))
		return m
	case 2, 3:
		return laid(n, func(i, j int) int64 { return upTo(d, 1<<(1+d.IntN(30))) })
	}
	return heavy(d, n, 1+d.Int64N(1<<(1+d.IntN(29))))
}

// byChance tells something to ask Predict by chance: what is wrong with it, if anything, is so by chance too.
func byChance(d *rand.Rand) asked {
	rows := orders()[d.IntN(len(orders()))]
	n := sizeOf(rows)
	s := api.State{M: matrixOf(d, n), V: vector(d, n, 1<<(1+d.IntN(56))), Row: rows}
	a := open(s, at(upTo(d, 1<<d.IntN(23)), upTo(d, farthest)), 1+d.Int64N(1<<(1+d.IntN(20))))
	switch d.IntN(20) {
	case 0:
		a.stiff = upTo(d, 2*stiffest)
	case 1:
		a.u.X = upTo(d, 2*farthest)
	case 2:
		a.u.Y = upTo(d, 2*farthest)
	case 3:
		s.V[d.IntN(n)] = []int64{top, -top, top + 1, -top - 1}[d.IntN(4)]
	case 4:
		s.M.A[d.IntN(len(s.M.A))] = []int64{edge, -edge, edge + 1, -edge - 1}[d.IntN(4)]
	}
	if d.IntN(2) == 0 {
		a.least, a.most = upTo(d, 1<<d.IntN(33)), upTo(d, 1<<d.IntN(33))
	}
	return a
}

// TestByChance: all sorts of states and motions by chance against the chapter's words: each error is told often, and so is a state.
func TestByChance(t *testing.T) {
	d, numbers := thrown(8), map[api.Errno]int{}
	for range 8000 {
		numbers[predictHolds(t, byChance(d))]++
	}
	for _, number := range []api.Errno{0, 21, 23, 27, 30, 31} {
		if numbers[number] < 50 {
			t.Errorf("P19.1: %d times %v", numbers[number], number)
		}
	}
}

// TestSmall: all small matrices of the vehicle, and all small numbers, by all small motions.
func TestSmall(t *testing.T) {
	for x := int64(-3); x <= 3; x++ {
		for xy := int64(-2); xy <= 2; xy++ {
			for y := int64(-3); y <= 3; y++ {
				for v := int64(-2); v <= 2; v++ {
					for stiff := int64(0); stiff <= 4; stiff++ {
						predictHolds(t, open(alone(x, xy, y, v, 3), at(1, -v), stiff))
					}
				}
			}
		}
	}
}

// TestManyByChance: motions one behind another, each against the chapter's words, with links that each makes more between the beacons.
func TestManyByChance(t *testing.T) {
	d, taken := thrown(9), 0
	for i := range 40 {
		rows := orders()[i%16]
		s := placed(heavy(d, sizeOf(rows), 1<<(10+d.IntN(18))), vector(d, sizeOf(rows), 90000), rows)
		for range 25 {
			a := asked{s, at(upTo(d, 5000), upTo(d, 5000)), 1 + d.Int64N(stiffest), 1, edge}
			if predictHolds(t, a) != 0 {
				break
			}
			s = predicts(t, a)
			taken++
		}
	}
	if taken < 500 {
		t.Errorf("P19.1: %d motions were taken", taken)
	}
}

// odd tells a number of any kind: small ones, ends of limits and types.
func odd(d *rand.Rand) int64 {
	l := []int64{math.MinInt64, math.MinInt64 + 1, -top, -edge, -farthest, -2, -1, 0, 1, 2, 4, 6, stiffest, farthest, edge, top, top + 1, math.MaxInt64 - 1, math.MaxInt64}
	if d.IntN(3) == 0 {
		return int64(d.Uint64()) >> d.IntN(64)
	}
	return l[d.IntN(len(l))]
}

// odds tells up to most such numbers.
func odds(d *rand.Rand, most int) []int64 {
	var l []int64
	for range d.IntN(most + 1) {
		l = append(l, odd(d))
	}
	return l
}

// TestAnything: whatever is asked, it answers, by the chapter's words.
func TestAnything(t *testing.T) {
	d := thrown(10)
	for range 20000 {
		s := api.State{M: api.Sym{N: int(odd(d)), A: odds(d, 40)}, V: odds(d, 9)}
		for i := range s.Row {
			s.Row[i] = int(odd(d))
		}
		if d.IntN(4) != 0 {
			s.Row = orders()[d.IntN(len(orders()))]
			n := sizeOf(s.Row)
			s.M, s.V = laid(n, func(i, j int) int64 { return odd(d) % (edge + 2) }), make([]int64, n)
			for i := range s.V {
				s.V[i] = odd(d) % (top + 2)
			}
		}
		a := asked{s, at(odd(d), odd(d)), odd(d), odd(d), odd(d)}
		if d.IntN(2) == 0 {
			a.u, a.stiff = at(odd(d)%(farthest+1), odd(d)%(farthest+1)), 1+odd(d)&(stiffest-1)
		}
		predictHolds(t, a)
	}
}
