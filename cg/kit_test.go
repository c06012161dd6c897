package cg_test

import (
	"math/rand/v2"
	"slices"
	"testing"

	"leadline/api"
	"leadline/cg"
	"leadline/solve"
	"leadline/sym"
)

const (
	edge = api.MaxEntry
	top  = api.MaxVector
)

// dice throw numbers by chance, always the same ones of a seed.
type dice struct{ *rand.Rand }

func thrown(seed uint64) dice {
	return dice{rand.New(rand.NewPCG(seed, 8))}
}

// list tells n numbers whose amounts are most at most; some are most itself, or 0.
func (d dice) list(n int, most int64) []int64 {
	var l []int64
	for range n {
		kinds := []int64{most, -most, 0, 0, 0, 0, 0, 0, 0, 0}
		kind := d.IntN(len(kinds))
		if kind > 2 {
			kinds[kind] = d.Int64N(2*most+1) - most
		}
		l = append(l, kinds[kind])
	}
	return l
}

// must tells the matrix of a call that doesn't fail.
func must(m api.Sym, err error) api.Sym {
	if err != nil {
		panic(err)
	}
	return m
}

// of tells the matrix of n rows with that upper triangle.
func of(n int, triangle ...int64) api.Sym {
	return api.Sym{N: n, A: triangle}
}

// diagonal tells n rows with v on the diagonal, and noughts beside.
func diagonal(n int, v int64) api.Sym {
	return must(sym.Diag(sym.New(n), v))
}

// last tells m with v more at its last entry.
func last(m api.Sym, v int64) api.Sym {
	a := slices.Clone(m.A)
	a[len(a)-1] += v
	return api.Sym{N: m.N, A: a}
}

// heap tells a definite matrix: 1 on the diagonal, and n lists, of amounts most at most, times themselves.
func (d dice) heap(n int, most int64) api.Sym {
	m := diagonal(n, 1)
	for range n {
		m = must(sym.Outer(m, 1, d.list(n, most)))
	}
	return m
}

// byOne tells a matrix that is definite by one: all of its minors are 1, as it is a triangle with ones on the diagonal, and amounts of most at most behind these, times itself.
func (d dice) byOne(n int, most int64) api.Sym {
	m := sym.New(n)
	for i := range n {
		row := append(make([]int64, i), 1)
		m = must(sym.Outer(m, 1, append(row, d.list(n-i-1, most)...)))
	}
	return m
}

// greatest tells a definite matrix with MaxEntry on the diagonal, and beside it what is less in a row together.
func (d dice) greatest(n int) api.Sym {
	m := diagonal(n, edge)
	for i := range n {
		for j, v := range d.list(i, edge/int64(n)) {
			m = must(sym.Set(m, i, j, v))
		}
	}
	return m
}

// some tells definite matrices of n rows, of all kinds.
func (d dice) some(n int) []api.Sym {
	return []api.Sym{diagonal(n, 1), diagonal(n, edge), d.heap(n, 3), d.heap(n, 300), d.heap(n, 11500), d.byOne(n, 1), d.byOne(n, 40), d.byOne(n, 11500), d.greatest(n)}
}

// product tells m x, which has to be a list of numbers of MaxVector's amount at most.
func product(t *testing.T, m api.Sym, x []int64) []int64 {
	t.Helper()
	v := make([]int64, m.N)
	for i := range m.N {
		for j := range m.N {
			entry, err := sym.At(m, i, j)
			if v[i] += entry * x[j]; err != nil || v[i] > top || v[i] < -top {
				t.Fatalf("%v times %d: %d, %v", m, x, v, err)
			}
		}
	}
	return v
}

// residual tells solve.Residual, which has to be there.
func residual(t *testing.T, m api.Sym, x, v []int64) int64 {
	t.Helper()
	r, err := solve.Residual(m, x, v)
	if err != nil {
		t.Errorf("Residual(%v, %d, %d): %v", m, x, v, err)
	}
	return r
}

// checkRun holds Run against all that is promised of it, where there is no error; it tells the answer.
func checkRun(t *testing.T, m api.Sym, v, start []int64, most int, enough int64) ([]int64, int) {
	t.Helper()
	x, steps, err := cg.Run(m, v, start, most, enough)
	if err != nil || len(x) != m.N {
		t.Errorf("P8.1: Run(%v, %d, %d, %d, %d): %d, %v", m, v, start, most, enough, x, err)
		return x, steps
	}
	for _, n := range x {
		if n > top || n < -top {
			t.Errorf("P8.1: Run(%v, %d, %d, %d, %d): %d", m, v, start, most, enough, x)
		}
	}
	was, is := residual(t, m, start, v), residual(t, m, x, v)
	if is > was {
		t.Errorf("P8.1: Run(%v, %d, %d, %d, %d): %d is %d off, the start %d", m, v, start, most, enough, x, is, was)
	}
	if steps < 0 || steps > min(max(most, 0), api.MaxIter) {
		t.Errorf("P8.1: Run(%v, %d, %d, %d, %d): %d steps", m, v, start, most, enough, steps)
	}
	if was <= enough && steps != 0 {
		t.Errorf("P8.1: Run(%v, %d, %d, %d, %d): %d steps from a start that is %d off", m, v, start, most, enough, steps, was)
	}
	if steps == 0 && !slices.Equal(x, start) {
		t.Errorf("P8.1: Run(%v, %d, %d, %d, %d): %d without a step", m, v, start, most, enough, x)
	}
	return x, steps
}

// checkSettle holds Settle against all that is promised of it, where there is no error; it tells whether the steps sufficed.
func checkSettle(t *testing.T, m api.Sym, v, start []int64, enough int64) bool {
	t.Helper()
	want, _ := checkRun(t, m, v, start, api.MaxIter, enough)
	suffice := residual(t, m, want, v) <= enough
	if !suffice {
		near, err := solve.Near(m, v)
		if err != nil {
			t.Errorf("Near(%v, %d): %v", m, v, err)
		}
		want = near
	}
	x, ok, err := cg.Settle(m, v, start, enough)
	if err != nil || ok != suffice || !slices.Equal(x, want) {
		t.Errorf("P8.2: Settle(%v, %d, %d, %d): %d, %v, %v instead of %d, %v", m, v, start, enough, x, ok, err, want, suffice)
	}
	return ok
}

// solvable tells whether a solution is told of m and v; if not, its nearest numbers are above MaxVector.
func solvable(m api.Sym, v []int64) bool {
	_, err := solve.Near(m, v)
	return err == nil
}
