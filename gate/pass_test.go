package gate_test

import (
	"testing"

	"leadline/api"
)

// TestPassKnown: ranges off by what another program reckoned as the last that pass: it passes, either way, one more doesn't.
func TestPassKnown(t *testing.T) {
	for _, x := range []struct {
		m                   api.Sym
		h                   []int64
		weight, gamma, last int64
	}{
		{matrix(2, 2, 1, 2), []int64{1, -1}, 2, 10, 5},
		{matrix(4, 122, -7, -35, -105, 20, 21, -7, 66, 35, 128), []int64{-193, -113, -55, -102}, 1721, 22, 396},
		{matrix(1, 54), []int64{60}, 3357, 6, 20},
		{matrix(4, 179, -54, -7, -128, 122, -61, 79, 203, -50, 132), []int64{-12, -137, -38, -2}, 2947, 4, 34},
		{matrix(3, 143, 76, 85, 71, 67, 78), []int64{100, 70, -82}, 2721, 7, 119},
		{matrix(3, 11, -33, 10, 203, -21, 158), []int64{-53, 61, 8}, 615, 48, 134},
		{matrix(4, 147, -33, 16, 26, 140, 144, -36, 200, -67, 128), []int64{56, 67, 67, -206}, 1323, 60, 212},
		{matrix(4, 155, -67, 43, 1, 139, -88, 33, 90, -75, 127), []int64{-206, 242, 146, 242}, 1823, 36, 794},
		{matrix(4, 153, 98, -4, -67, 87, -37, -15, 187, -142, 176), []int64{80, -83, -20, 64}, 3015, 12, 127},
		{matrix(2, 9, 10, 46), []int64{-161, -148}, 87, 13, 194},
		{matrix(2, 55, 60, 79), []int64{-116, 230}, 3710, 1, 98},
		{matrix(3, 40, 33, 17, 86, 45, 88), []int64{-156, -241, -228}, 925, 31, 174},
		{matrix(3, 120, 31, 71, 114, 20, 126), []int64{182, -197, -195}, 1541, 35, 257},
	} {
		for _, off := range []int64{0, 1, x.last - 1, x.last} {
			passes(t, asked{x.m, x.h, off, x.weight, x.gamma})
			passes(t, asked{x.m, x.h, -off, x.weight, x.gamma})
		}
		for _, off := range []int64{x.last + 1, x.last + 2, 2 * x.last, farthest} {
			gated(t, asked{x.m, x.h, off, x.weight, x.gamma})
			gated(t, asked{x.m, x.h, -off, x.weight, x.gamma})
		}
	}
}

// TestPassJust: what is just at the gate, with one less and one more of each measure, written down.
func TestPassJust(t *testing.T) {
	m, h := matrix(2, 2, 1, 2), []int64{1, -1} // the spread is 6 over 3
	for _, off := range []int64{5, -5} {
		passes(t, asked{m, h, off, 2, 10}) // 25 times 6 is 10 times 15
		gated(t, asked{m, h, off, 2, 9})
		passes(t, asked{m, h, off, 2, 11})
		passes(t, asked{m, h, off, 1, 10})
		gated(t, asked{m, h, off, 3, 10})
	}
	for _, off := range []int64{4, -4} {
		passes(t, asked{m, h, off, 2, 10})
	}
	for _, off := range []int64{6, -6} {
		gated(t, asked{m, h, off, 2, 10})
	}
	passes(t, asked{m, []int64{-1, 1}, 5, 2, 10})
	gated(t, asked{m, []int64{1, 1}, 5, 2, 10}) // the spread is 2 over 3
	gated(t, asked{m, []int64{1, 0}, 5, 2, 10})
	passes(t, asked{m, []int64{2, -1}, 5, 2, 10})
	gated(t, asked{matrix(2, 2, 0, 2), h, 5, 2, 10}) // and of other matrices
	gated(t, asked{matrix(2, 3, 1, 2), h, 5, 2, 10})
	passes(t, asked{matrix(2, 3, 2, 3), h, 5, 2, 10})
}

// TestPassJustOften: small matrices, lists and measures: all that are just at the gate, one less, one more.
func TestPassJustOften(t *testing.T) {
	just := 0
	for a := int64(1); a <= 4; a++ {
		for b := int64(-3); b <= 3; b++ {
			for c := int64(1); c <= 4; c++ {
				if a*c <= b*b {
					continue
				}
				for _, h := range [][]int64{{0, 0}, {1, 0}, {0, -1}, {1, -1}, {1, 2}, {-3, 2}, {4, 7}} {
					for _, weight := range []int64{1, 2, 3, 5, 8} {
						for _, gamma := range []int64{1, 2, 4, 5, 9, 10, 12, 60} {
							if holds(t, asked{matrix(2, a, b, c), h, 3, weight, gamma}) {
								just++
							}
						}
					}
				}
			}
		}
	}
	if just < 500 {
		t.Errorf("P17.1: %d were just at the gate", just)
	}
}

// TestPassNoRows: of no rows nothing is known to be spread: the weight and gamma alone count.
func TestPassNoRows(t *testing.T) {
	for _, m := range []api.Sym{{}, {A: []int64{}}} {
		for _, h := range [][]int64{nil, {}} {
			for _, x := range []struct{ last, weight, gamma int64 }{{1, 1, 1}, {1, 1, 3}, {2, 1, 4}, {64, 1, 4096}, {32, 4, 4096}, {1, 4096, 4096}, {0, 4096, 4095}, {0, 2, 1}, {0, 4096, 1}, {1, 4095, 4096}, {63, 1, 4095}} {
				for _, sign := range []int64{1, -1} {
					passes(t, asked{m, h, 0, x.weight, x.gamma})
					passes(t, asked{m, h, sign * x.last, x.weight, x.gamma})
					gated(t, asked{m, h, sign * (x.last + 1), x.weight, x.gamma})
					gated(t, asked{m, h, sign * farthest, x.weight, x.gamma})
				}
			}
		}
	}
}

// TestPassNoDirection: a list of noughts: nothing of what is known counts, but the matrix has to be definite.
func TestPassNoDirection(t *testing.T) {
	for n := range 9 {
		for _, m := range []api.Sym{diagonal(n, 1, 0), diagonal(n, edge, 0), diagonal(n, edge, edge-1), diagonal(n, 3, 1)} {
			h := make([]int64, n)
			passes(t, asked{m, h, 64, 1, 4096})
			gated(t, asked{m, h, 65, 1, 4096})
			gated(t, asked{m, h, -65, 1, 4096})
			gated(t, asked{m, h, 64, 1, 4095})
			passes(t, asked{m, h, -1, 4096, 4096})
			gated(t, asked{m, h, 2, 4096, 4096})
			gated(t, asked{m, h, -1, 4096, 4095})
			holds(t, asked{m, h, farthest, 7, 11})
		}
	}
}

// TestPassGreatJust: eight rows of the greatest entries, off and gamma at their greatest, and a list whose squares together make just that gate: numbers of some 300 bits that differ in their last ones alone.
func TestPassGreatJust(t *testing.T) {
	m, h := diagonal(8, edge, 0), []int64{1 << 15, 5 << 15, 362 << 15, 65535 << 15, 0, 0, 0, 0}
	a := asked{m, h, farthest, 1, widest}
	passes(t, a)
	a.off = -farthest
	passes(t, a)
	a.off = farthest - 1
	passes(t, a)
	gated(t, asked{m, h, farthest, 1, widest - 1})
	gated(t, asked{m, h, farthest, 2, widest})
	gated(t, asked{m, h, -farthest, 2, widest})
	for i := range 4 {
		less, more := append([]int64(nil), h...), append([]int64(nil), h...)
		less[i]--
		more[i]++
		gated(t, asked{m, less, farthest, 1, widest})
		passes(t, asked{m, more, farthest, 1, widest})
	}
	for _, x := range []struct {
		i, j   int
		v      int64
		passes bool
	}{
		{0, 0, edge - 1, true}, // an entry that is less makes the spread more
		{7, 7, edge - 1, true}, // but where the list has nought
		{0, 1, 1, false},       // less, by one part in 2 to the 58
		{0, 1, -1, true},
		{0, 7, 1, true}, // more, either way, by one part in 2 to the 92
		{0, 7, -1, true},
		{4, 7, 1, true}, // as it was
		{4, 5, -1, true},
	} {
		a := asked{with(m, x.i, x.j, x.v), h, farthest, 1, widest}
		holds(t, a)
		if x.passes {
			passes(t, a)
			continue
		}
		gated(t, a)
		a.off-- // here there is room again
		passes(t, a)
	}
}

// TestPassGreatest: all numbers at their greatest at once, of matrices that are far from loose and such that are nearly, with lists that are great, small, by turns of either sign.
func TestPassGreatest(t *testing.T) {
	for n := 1; n <= 8; n++ {
		for _, m := range []api.Sym{diagonal(n, edge, 0), diagonal(n, edge, edge-1), diagonal(n, edge, 1), diagonal(n, edge, edge/2), with(diagonal(n, edge, 0), 0, n-1, edge/int64(n+1)), diagonal(n, 1, 0)} {
			for _, v := range []int64{top, -top, 1 << 36, 1 << 37, 1 << 31, 65536, 1, 0} {
				same, turns, one := make([]int64, n), make([]int64, n), make([]int64, n)
				for i := range n {
					same[i], turns[i] = v, v*int64(1-i%2*2)
				}
				one[n-1] = v
				for _, h := range [][]int64{same, turns, one} {
					for _, x := range []struct{ weight, gamma int64 }{{1, 1}, {1, widest}, {heaviest, 1}, {heaviest, widest}, {2, widest - 1}, {heaviest - 1, 2}} {
						holds(t, asked{m, h, farthest, x.weight, x.gamma})
					}
				}
			}
		}
	}
	h := []int64{top, -top, top, -top, top, -top, top, -top}
	passes(t, asked{diagonal(8, edge, 0), h, farthest, heaviest, 1}) // the spread is far beyond any range
	passes(t, asked{diagonal(8, edge, edge-1), h, -farthest, heaviest, 1})
	gated(t, asked{diagonal(8, edge, 0), []int64{1, 1, 1, 1, 1, 1, 1, 1}, farthest, heaviest, 1})
	gated(t, asked{diagonal(8, edge, 0), []int64{256, 0, 0, 0, 0, 0, 0, -256}, farthest, heaviest, widest})
}

// TestPassByChance: matrices of all sizes by chance, with all sorts of lists and measures.
func TestPassByChance(t *testing.T) {
	d, near := thrown(1), 0
	for range 4000 {
		n := d.IntN(9)
		m := heavy(d, n, 1+d.Int64N(1<<(1+d.IntN(30))))
		if d.IntN(3) == 0 {
			m = narrow(d, n, []int64{2, 50, 9000}[d.IntN(3)])
		}
		h := vector(d, n, []int64{1, 256, 256, 1 << 20, 1 << 31, 1 << 37, top}[d.IntN(7)])
		a := asked{m, h, upTo(d, farthest), 1 + d.Int64N(heaviest), 1 + d.Int64N(widest)}
		switch d.IntN(5) {
		case 0:
			a.off = []int64{0, 1, farthest, -farthest}[d.IntN(4)]
		case 1:
			a.weight = []int64{1, heaviest}[d.IntN(2)]
		case 2:
			a.gamma = []int64{1, widest}[d.IntN(2)]
		}
		holds(t, a)
		if q, _ := spread(m, h); q != nil {
			if off, _ := last(room(q, a.weight, a.gamma)); off < farthest {
				near++
			}
		}
	}
	if near < 1000 {
		t.Errorf("P17.1: the gate was within what may be told %d times", near)
	}
}

// TestPassEnds: each measure at its least and its greatest, with one row whose gate is known: off off weight is at most gamma (weight 9 + 1).
func TestPassEnds(t *testing.T) {
	m, h := matrix(1, 1), []int64{3}
	for _, weight := range []int64{1, 2, heaviest - 1, heaviest} {
		for _, gamma := range []int64{1, 2, widest - 1, widest} {
			for _, off := range []int64{0, 1, 2, 3, 4, 191, 192, 193, 202, 203, farthest - 1, farthest} {
				for _, sign := range []int64{1, -1} {
					a := asked{m, h, sign * off, weight, gamma}
					if off*off*weight > gamma*(weight*9+1) {
						gated(t, a)
						continue
					}
					passes(t, a)
				}
			}
		}
	}
}
