package cg_test

import (
	"math"
	"slices"
	"testing"

	"leadline/api"
	"leadline/cg"
	"leadline/solve"
)

// arrives holds Run against a solution of whole numbers: it is there behind as many steps as there are rows, at most.
func arrives(t *testing.T, m api.Sym, v, start, want []int64) {
	t.Helper()
	x, steps := checkRun(t, m, v, start, api.MaxIter, 0)
	if steps > m.N || !slices.Equal(x, want) {
		t.Errorf("P8.1: Run(%v, %d, %d): %d behind %d steps instead of %d", m, v, start, x, steps, want)
	}
}

func TestWrittenDown(t *testing.T) {
	m := of(2, 2, 1, 2)
	arrives(t, m, []int64{3, 3}, []int64{0, 0}, []int64{1, 1})
	arrives(t, m, []int64{3, 3}, []int64{-9, 4}, []int64{1, 1})
	arrives(t, m, []int64{3, 3}, []int64{top, -top}, []int64{1, 1})
	arrives(t, m, []int64{0, 0}, []int64{5, 1 << 40}, []int64{0, 0})
	arrives(t, m, []int64{0, -3 * top / 4}, []int64{1, 2}, []int64{top / 4, -top / 2})
	m = of(3, 4, -2, 1, 3, 0, 2)
	arrives(t, m, []int64{4*7 + 2*8 + 3, -2*7 - 3*8, 7 + 2*3}, []int64{0, 0, 0}, []int64{7, -8, 3})
}

func TestNoRows(t *testing.T) {
	for _, m := range []api.Sym{{}, {A: []int64{}}, {A: make([]int64, 0, 9)}} {
		for _, v := range [][]int64{nil, {}, make([]int64, 0, 3)} {
			for _, enough := range []int64{math.MinInt64, -1, 0, 1, math.MaxInt64} {
				for _, most := range []int{-1, 0, 1, api.MaxIter, math.MaxInt} {
					checkRun(t, m, v, v, most, enough)
					checkRun(t, m, v, nil, most, enough)
				}
				checkSettle(t, m, v, nil, enough)
				checkSettle(t, m, nil, v, enough)
			}
		}
	}
}

func TestOneRow(t *testing.T) {
	for _, d := range []int64{1, 2, 3, 5, 1000, edge - 1, edge} {
		for _, v := range []int64{0, 1, -1, 2, 7, -30, top, -top, top - 1, 1 - top} {
			near, err := solve.Near(of(1, d), []int64{v})
			if err != nil {
				t.Fatalf("Near(%d, %d): %v", d, v, err)
			}
			off := residual(t, of(1, d), near, []int64{v})
			for _, start := range []int64{0, 1, -1, 99, math.MaxInt32, -math.MaxInt32} {
				x, steps := checkRun(t, of(1, d), []int64{v}, []int64{start}, 1, off)
				if r := residual(t, of(1, d), x, []int64{v}); r != off || steps > 1 {
					t.Errorf("P8.1: Run(%d, %d, %d): %d, %d off instead of %d, behind %d steps", d, v, start, x, r, off, steps)
				}
				checkSettle(t, of(1, d), []int64{v}, []int64{start}, off)
				checkSettle(t, of(1, d), []int64{v}, []int64{start}, off-1)
			}
		}
	}
}

// TestByChance holds all sizes, kinds of matrices, and numbers of all lengths.
func TestByChance(t *testing.T) {
	d := thrown(1)
	suffice, not, over := 0, 0, 0
	for n := 1; n <= api.MaxDim; n++ {
		for _, length := range []int64{2, 1 << 20, 1 << 40, top} {
			for _, m := range d.some(n) {
				v, start := d.list(n, length), d.list(n, min(length, 1<<29))
				if !solvable(m, v) {
					over++
					continue
				}
				checkRun(t, m, v, start, d.IntN(n+2), int64(d.IntN(100)))
				if checkSettle(t, m, v, start, d.Int64N(2*edge)>>d.IntN(31)) {
					suffice++
				} else {
					not++
				}
			}
		}
	}
	if suffice < 30 || not < 30 || over < 30 {
		t.Errorf("P8.2: %d times the steps sufficed, %d times not; %d solutions are too great", suffice, not, over)
	}
}

// TestEveryOne holds all definite matrices of two rows and few entries, with all lists of few numbers; often the nearest numbers to the solution are farther off than the start.
func TestEveryOne(t *testing.T) {
	from := []int64{-2, 0, 3}
	farther := 0
	for a := int64(1); a < 8; a++ {
		for b := int64(-6); b < 7; b++ {
			m := of(2, a, b, b*b/a+1)
			for i := int64(-4); i < 5; i++ {
				for j := int64(-4); j < 5; j++ {
					v, start := []int64{i, j}, []int64{from[(a+i+12)%3], from[(b+j+12)%3]}
					near, err := solve.Near(m, v)
					if err != nil {
						t.Fatalf("Near(%v, %d): %v", m, v, err)
					}
					was := residual(t, m, start, v)
					if residual(t, m, near, v) > was {
						farther++
					}
					checkRun(t, m, v, start, 3, 0)
					checkRun(t, m, v, start, 2, was-1)
				}
			}
		}
	}
	if farther < 50 {
		t.Errorf("P8.1: only %d starts are nearer than the nearest numbers", farther)
	}
}

// TestMost: how many steps are taken at most; below 0 counts as 0, above MaxIter as that.
func TestMost(t *testing.T) {
	d := thrown(2)
	for n := 1; n <= api.MaxDim; n++ {
		m, v, start := d.heap(n, 11500), d.list(n, top), d.list(n, 1<<30)
		none := [][2]int{{0, 0}, {-1, 0}, {-api.MaxIter, 0}, {math.MinInt, 0}}
		all := [][2]int{{api.MaxIter, api.MaxIter}, {api.MaxIter + 1, api.MaxIter}, {1 << 40, api.MaxIter}, {math.MaxInt, api.MaxIter}}
		for _, most := range append(none, append(all, [2]int{1, 1}, [2]int{2, 2}, [2]int{api.MaxIter - 1, api.MaxIter - 1})...) {
			x, steps := checkRun(t, m, v, start, most[0], -1)
			want, wantSteps := checkRun(t, m, v, start, most[1], -1)
			if steps != wantSteps || !slices.Equal(x, want) {
				t.Errorf("P8.1: Run(%v, %d, %d, %d): %d, %d; of %d: %d, %d", m, v, start, most[0], x, steps, most[1], want, wantSteps)
			}
			if most[1] == 0 && !slices.Equal(x, start) {
				t.Errorf("P8.1: Run(%v, %d, %d, %d): %d", m, v, start, most[0], x)
			}
		}
	}
}

// TestEnough: a start that is near enough is the answer; of one that isn't, by just one, the way is gone.
func TestEnough(t *testing.T) {
	d := thrown(3)
	for n := 1; n <= api.MaxDim; n++ {
		want := d.list(n, 1<<20)
		m := d.heap(n, 300)
		v := product(t, m, want)
		start := d.list(n, 1<<20)
		was := residual(t, m, start, v)
		for _, enough := range []int64{was, was + 1, math.MaxInt64} {
			x, steps := checkRun(t, m, v, start, api.MaxIter, enough)
			if steps != 0 || !slices.Equal(x, start) {
				t.Errorf("P8.1: Run(%v, %d, %d) with %d, which is enough: %d behind %d steps", m, v, start, enough, x, steps)
			}
			if !checkSettle(t, m, v, start, enough) {
				t.Errorf("P8.2: Settle(%v, %d, %d): %d doesn't suffice", m, v, start, enough)
			}
		}
		for _, enough := range []int64{was - 1, was / 2, 0} {
			x, steps := checkRun(t, m, v, start, api.MaxIter, enough)
			if r := residual(t, m, x, v); r > enough || steps == 0 && was > enough {
				t.Errorf("P8.1: Run(%v, %d, %d) with %d, which isn't enough: %d, %d off, behind %d steps", m, v, start, enough, x, r, steps)
			}
			checkSettle(t, m, v, start, enough)
		}
		for _, enough := range []int64{-1, math.MinInt64} { // nothing is
			if x, _ := checkRun(t, m, v, start, api.MaxIter, enough); !slices.Equal(x, want) {
				t.Errorf("P8.1: Run(%v, %d, %d) with %d: %d instead of %d", m, v, start, enough, x, want)
			}
			checkSettle(t, m, v, start, enough)
		}
	}
}

// TestStepByStep: with more steps the answer isn't farther off, and with as many as there are rows it is as near as the nearest numbers to the solution.
func TestStepByStep(t *testing.T) {
	d := thrown(4)
	over := 0
	for n := 1; n <= api.MaxDim; n++ {
		for _, m := range []api.Sym{diagonal(n, 1), d.heap(n, 3), d.heap(n, 300), d.heap(n, 11500), d.byOne(n, 1), d.greatest(n)} {
			v, start := product(t, m, d.list(n, 1<<22)), d.list(n, 1<<30)
			v[n-1] += int64(d.IntN(3))
			near, err := solve.Near(m, v)
			if err != nil {
				over++ // little more in v may be much more in the solution
				continue
			}
			off := residual(t, m, start, v)
			for most := range n + 2 {
				x, _ := checkRun(t, m, v, start, most, -1)
				r := residual(t, m, x, v)
				if r > off {
					t.Errorf("P8.1: Run(%v, %d, %d): %d off behind %d steps, %d ahead", m, v, start, r, most, off)
				}
				off = r
				if most >= n && r > residual(t, m, near, v) {
					t.Errorf("P8.1: Run(%v, %d, %d): %d is %d off behind %d steps; %d isn't", m, v, start, x, r, most, near)
				}
			}
		}
	}
	if over > 10 {
		t.Errorf("P8.1: %d solutions are too great", over)
	}
}

// TestTooGreatOnTheWay: a step leads to numbers that can't be told, or that leave what an int64 hasn't, but not the next ones.
func TestTooGreatOnTheWay(t *testing.T) {
	for i, x := range []struct {
		m        api.Sym
		v, start []int64
	}{
		{of(2, 5, 6, 8), []int64{-17786615081436246, 6470383316133269}, []int64{-68510926239942060, top}},
		{of(2, 1, -1, 5), []int64{-51523304059440707, top}, []int64{-top, -top}},
		{of(2, 8, -6, 5), []int64{0, 0}, []int64{top, 67454221446779653}},
		{of(4, 805306368, 268435456, -268435456, 134217728, 1073741824, 536870912, -402653184, 1073741824, -402653184, 335544320), []int64{0, 0, 0, 0}, []int64{-17179869184, 14513763096, -16912844710, -12023037065}},
	} {
		near, err := solve.Near(x.m, x.v)
		if err != nil {
			t.Fatalf("Near %d: %v", i, err)
		}
		if got, _ := checkRun(t, x.m, x.v, x.start, 1, -1); !slices.Equal(got, x.start) {
			t.Errorf("P8.1: %d: one step: %d; no step that is too great was met", i, got)
		}
		got, _ := checkRun(t, x.m, x.v, x.start, api.MaxIter, -1)
		if r, want := residual(t, x.m, got, x.v), residual(t, x.m, near, x.v); r > want {
			t.Errorf("P8.1: %d: %d is %d off, the solution %d", i, got, r, want)
		}
		checkSettle(t, x.m, x.v, x.start, 0)
	}
}

// TestGreatest: entries of just MaxEntry's amount, numbers of just MaxVector's.
func TestGreatest(t *testing.T) {
	d := thrown(5)
	for n := 1; n <= api.MaxDim; n++ {
		for range 4 {
			m := d.greatest(n)
			v, start := slices.Repeat([]int64{top}, n), d.list(n, 1<<33/int64(2*n))
			for i := range v {
				v[i] *= int64(1 - 2*d.IntN(2))
			}
			checkSettle(t, m, v, start, 1<<33)
			checkSettle(t, m, v, start, 0)
			m = d.byOne(n, 1)
			start = v
			if solvable(m, v) {
				checkSettle(t, m, v, start, 1<<d.IntN(20))
			}
		}
		v := d.list(n, top)
		for _, start := range [][]int64{v, slices.Repeat([]int64{top}, n), slices.Repeat([]int64{-top}, n)} {
			arrives(t, diagonal(n, 1), v, start, v)
		}
	}
}

// TestSameAgain: the same arguments, the same answer.
func TestSameAgain(t *testing.T) {
	d := thrown(6)
	for n := range api.MaxDim + 1 {
		m, v, start := d.heap(n, 11500), d.list(n, top), d.list(n, 1<<30)
		x, steps := checkRun(t, m, v, start, api.MaxIter, 1<<20)
		other, _, _ := cg.Settle(m, v, start, 3)
		again, stepsAgain := checkRun(t, m, v, start, api.MaxIter, 1<<20)
		otherAgain, _, _ := cg.Settle(m, v, start, 3)
		if steps != stepsAgain || !slices.Equal(x, again) || !slices.Equal(other, otherAgain) {
			t.Errorf("P8.1, P8.2: of %v, %d, %d: %d, %d and then %d, %d", m, v, start, x, other, again, otherAgain)
		}
	}
}
