package cg_test

import (
	"math"
	"slices"
	"testing"

	"leadline/api"
	"leadline/cg"
)

// settles holds Settle against what is written down.
func settles(t *testing.T, m api.Sym, v, start []int64, enough int64, want []int64, suffice bool) {
	t.Helper()
	x, ok, err := cg.Settle(m, v, start, enough)
	if err != nil || ok != suffice || !slices.Equal(x, want) {
		t.Errorf("P8.2, P8.3: Settle(%v, %d, %d, %d): %d, %v, %v instead of %d, %v", m, v, start, enough, x, ok, err, want, suffice)
	}
}

// TestSettleWrittenDown: a start that is near enough is told; where no whole numbers are, the nearest ones.
func TestSettleWrittenDown(t *testing.T) {
	m := of(2, 2, 1, 2)
	settles(t, m, []int64{3, 3}, []int64{1, 1}, 0, []int64{1, 1}, true)
	settles(t, m, []int64{3, 3}, []int64{0, 0}, 0, []int64{1, 1}, true)
	settles(t, m, []int64{3, 3}, []int64{0, 0}, 3, []int64{0, 0}, true)
	settles(t, m, []int64{3, 3}, []int64{0, 0}, -1, []int64{1, 1}, false)
	settles(t, m, []int64{1, 0}, []int64{0, 0}, 0, []int64{1, 0}, false) // 2 over 3 and -1 over 3
	settles(t, m, []int64{1, 0}, []int64{0, 0}, 1, []int64{0, 0}, true)
	settles(t, m, []int64{-4, 7}, []int64{-9, 9}, 0, []int64{-5, 6}, true)
	settles(t, of(1, 2), []int64{5}, []int64{0}, 0, []int64{3}, false) // of two the greater one
	settles(t, of(1, 2), []int64{-5}, []int64{0}, 0, []int64{-2}, false)
	settles(t, of(1, 2), []int64{5}, []int64{2}, 1, []int64{2}, true)
	settles(t, of(1, 2), []int64{5}, []int64{2}, 0, []int64{3}, false)
	settles(t, of(1, 1), []int64{top}, []int64{-top}, -1, []int64{top}, false)
	settles(t, api.Sym{}, nil, nil, 0, nil, true)
	settles(t, api.Sym{}, nil, nil, -1, nil, false)
}

// TestFartherThanStart: where the steps don't suffice it is the exact solution's nearest numbers that are told, though by Residual the start be nearer.
func TestFartherThanStart(t *testing.T) {
	m, v, start, near := of(2, 11, 11, 13), []int64{0, 1}, []int64{0, 0}, []int64{0, 1} // of -1 over 2 and 1 over 2
	if was, is := residual(t, m, start, v), residual(t, m, near, v); was != 1 || is != 12 {
		t.Errorf("P7.2: %d and %d are off instead of 1 and 12", was, is)
	}
	settles(t, m, v, start, 0, near, false)
	settles(t, m, v, start, 1, start, true)
	settles(t, m, v, near, 12, near, true)
	if x, _ := checkRun(t, m, v, start, api.MaxIter, 0); !slices.Equal(x, start) {
		t.Errorf("P8.1: Run(%v, %d, %d): %d", m, v, start, x)
	}
}

// TestSolutionItself: it is the answer, and true, if nothing off is enough; else it is so as the exact solution.
func TestSolutionItself(t *testing.T) {
	d := thrown(11)
	for n := range api.MaxDim + 1 {
		for range 5 {
			x := d.list(n, 1<<20)
			for _, m := range []api.Sym{d.heap(n, 300), d.byOne(n, 30), d.greatest(n), diagonal(n, edge)} {
				v := product(t, m, x)
				for _, enough := range []int64{0, 1, math.MaxInt64} {
					settles(t, m, v, x, enough, x, true)
					if got, steps := checkRun(t, m, v, x, api.MaxIter, enough); steps != 0 || !slices.Equal(got, x) {
						t.Errorf("P8.1: Run(%v, %d, %d): %d behind %d steps", m, v, x, got, steps)
					}
				}
				for _, enough := range []int64{-1, math.MinInt64} {
					settles(t, m, v, x, enough, x, false)
					if got, steps := checkRun(t, m, v, x, api.MaxIter, enough); steps != 0 || !slices.Equal(got, x) { // nothing is left that tells a way on
						t.Errorf("P8.1: Run(%v, %d, %d): %d behind %d steps", m, v, x, got, steps)
					}
				}
			}
		}
	}
}

// TestJustEnough: what the way's best is off suffices, one less doesn't.
func TestJustEnough(t *testing.T) {
	d := thrown(12)
	for n := 1; n <= api.MaxDim; n++ {
		for _, m := range []api.Sym{d.heap(n, 300), d.heap(n, 11500), d.greatest(n)} {
			v, start := d.list(n, top), d.list(n, 1<<30)
			best, _ := checkRun(t, m, v, start, api.MaxIter, -1)
			off := residual(t, m, best, v)
			if !checkSettle(t, m, v, start, off) || checkSettle(t, m, v, start, off-1) {
				t.Errorf("P8.2: Settle(%v, %d, %d): %d should be just enough", m, v, start, off)
			}
		}
	}
}

// TestLastStep: the steps that Settle takes are MaxIter, not one less. (Of these the last step leads nearer.)
func TestLastStep(t *testing.T) {
	for _, seed := range []uint64{199, 204, 226, 248, 284} {
		d := thrown(seed)
		m := d.byOne(8, 11500)
		v, start := product(t, m, d.list(8, 1<<22)), d.list(8, 1<<30)
		best, steps := checkRun(t, m, v, start, api.MaxIter, -1)
		if steps != api.MaxIter {
			t.Errorf("P8.1: Run(%v, %d, %d): %d steps", m, v, start, steps)
		}
		if off := residual(t, m, best, v); !checkSettle(t, m, v, start, off) {
			t.Errorf("P8.2: Settle(%v, %d, %d): %d should be enough", m, v, start, off)
		}
	}
}
