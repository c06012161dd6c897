package cg_test

import (
	"errors"
	"math"
	"slices"
	"testing"

	"leadline/api"
	"leadline/cg"
	"leadline/fault"
	"leadline/sym"
)

// wrong holds an error against its number, and that package cg told it, as a Fault.
func wrong(t *testing.T, name string, err error, want api.Errno) {
	t.Helper()
	ops := fault.Ops(err)
	if fault.Code(err) != want || !errors.Is(err, want) || len(ops) == 0 || ops[0] != "cg" {
		t.Errorf("%s: %v, of %q, instead of %v", name, err, ops, want)
	}
	if _, ok := err.(*fault.Fault); !ok {
		t.Errorf("%s: the error is a %T", name, err)
	}
}

// fails holds both calls against that error, with nothing beside it, however many steps are taken and whatever is enough.
func fails(t *testing.T, m api.Sym, v, start []int64, want api.Errno) {
	t.Helper()
	for _, enough := range []int64{math.MinInt64, 0, math.MaxInt64} {
		for _, most := range []int{-1, 0, 1, api.MaxIter, math.MaxInt} {
			x, steps, err := cg.Run(m, v, start, most, enough)
			wrong(t, "P8.1: Run", err, want)
			if len(x) != 0 || steps != 0 {
				t.Errorf("P8.1: Run(%v, %d, %d, %d, %d): %d, %d beside an error", m, v, start, most, enough, x, steps)
			}
		}
		x, ok, err := cg.Settle(m, v, start, enough)
		wrong(t, "P8.2: Settle", err, want)
		if len(x) != 0 || ok {
			t.Errorf("P8.2: Settle(%v, %d, %d, %d): %d, %v beside an error", m, v, start, enough, x, ok)
		}
	}
}

// all tells n times v.
func all(n int, v int64) []int64 {
	return slices.Repeat([]int64{v}, n)
}

// notRight tells matrices that aren't right.
func notRight() []api.Sym {
	l := []api.Sym{of(0, 0), of(0, 1), of(1), of(1, 1, 1), of(2, 1, 0), of(2), of(2, 1, 0, 1, 0), of(-1), of(-1, 1), of(-2, 5), of(math.MaxInt), of(math.MinInt), of(1 << 32)}
	for _, n := range []int{-9, 7, 9} {
		l = append(l, of(n, diagonal(8, 1).A...))
	}
	l = append(l, of(8, all(35, 0)...), of(8, all(37, 0)...), of(9, all(45, 0)...))
	for _, v := range []int64{edge + 1, -edge - 1, math.MaxInt64, math.MinInt64} {
		l = append(l, of(1, v), of(2, v, 0, 1), of(2, 1, v, 1), of(2, 1, 0, v))
	}
	return l
}

// loose tells right matrices of n rows that aren't definite; some of them just not.
func loose(n int) []api.Sym {
	d := thrown(uint64(n))
	return []api.Sym{sym.New(n), diagonal(n, -1), diagonal(n, -edge), of(n, all(n*(n+1)/2, -1)...), last(diagonal(n, 1), -1), last(diagonal(n, 5), -6), last(d.byOne(n, 1), -1), last(d.byOne(n, 11500), -1)}
}

// tooGreat tells numbers whose amount is above MaxVector.
func tooGreat() []int64 {
	return []int64{top + 1, -top - 1, 1 << 60, math.MaxInt64, math.MinInt64}
}

func TestNotRight(t *testing.T) {
	for _, m := range notRight() {
		for n := range 10 {
			fails(t, m, all(n, 1), all(n, 1), api.ErrSize)
			fails(t, m, all(n, top+1), all(n, math.MinInt64), api.ErrSize)
		}
	}
}

func TestOtherSizes(t *testing.T) {
	for n := range api.MaxDim + 1 {
		for other := range api.MaxDim + 3 {
			if other == n {
				continue
			}
			for _, m := range []api.Sym{diagonal(n, 3), diagonal(n, 0)} {
				fails(t, m, all(other, 1), all(n, 1), api.ErrSize)
				fails(t, m, all(other, top+1), all(other, top+1), api.ErrSize)
			}
			fails(t, diagonal(n, 3), all(n, 1), all(other, 1), api.ErrSize)
			fails(t, diagonal(n, 3), all(n, 1), all(other, top+1), api.ErrSize)
		}
	}
}

// TestNumberTooGreat: just MaxVector's amount is taken, one more isn't, at each place of both lists.
func TestNumberTooGreat(t *testing.T) {
	for n := 1; n <= api.MaxDim; n++ {
		for at := range n {
			for _, v := range []int64{top, -top} {
				just := make([]int64, n)
				just[at] = v
				checkSettle(t, diagonal(n, 1), just, make([]int64, n), 0)
				checkSettle(t, diagonal(n, 1), make([]int64, n), just, 0)
				checkSettle(t, diagonal(n, 1), just, just, 0)
				checkSettle(t, diagonal(n, 64), just, just, 0)
			}
			for _, v := range tooGreat() {
				great := make([]int64, n)
				great[at] = v
				fails(t, diagonal(n, 2), great, make([]int64, n), api.ErrOver)
				fails(t, diagonal(n, 2), make([]int64, n), great, api.ErrOver)
				fails(t, diagonal(n, edge), great, great, api.ErrOver)
			}
		}
	}
}

// TestLoose: a matrix that is definite by one is taken, one that just isn't is not.
func TestLoose(t *testing.T) {
	for n := 1; n <= api.MaxDim; n++ {
		for _, m := range loose(n) {
			fails(t, m, all(n, 0), all(n, 0), api.ErrLoose)
			fails(t, m, all(n, 7), all(n, 1), api.ErrLoose)
		}
		d := thrown(uint64(n)) // the matrices that loose tells with one less
		for _, m := range []api.Sym{d.byOne(n, 1), d.byOne(n, 11500)} {
			checkSettle(t, m, all(n, 0), all(n, 1), 0)
			checkSettle(t, m, product(t, m, all(n, 2)), all(n, 0), -1)
		}
	}
	fails(t, of(2, edge, edge, edge), all(2, 1), all(2, 1), api.ErrLoose)
	checkSettle(t, of(2, edge, edge-1, edge), all(2, 1), all(2, 1), 0)
}

// TestSolutionTooGreat: the nearest numbers to the solution are above MaxVector by one, or by more, or just not.
func TestSolutionTooGreat(t *testing.T) {
	m := of(2, 2, 1, 1) // the solution is v_0 less v_1, and twice v_1 less v_0
	fails(t, m, []int64{top, -1}, []int64{0, 0}, api.ErrOver)
	fails(t, m, []int64{top - 1, -1}, []int64{0, 0}, api.ErrOver)
	fails(t, m, []int64{-1, top / 2}, []int64{0, 0}, api.ErrOver)
	fails(t, m, []int64{top, -top}, []int64{top, -top}, api.ErrOver)
	settles(t, m, []int64{top, 0}, []int64{0, 0}, -1, []int64{top, -top}, false)
	settles(t, m, []int64{-top, 0}, []int64{0, 0}, 0, []int64{-top, top}, true)
	settles(t, m, []int64{0, top / 2}, []int64{0, 0}, 0, []int64{-top / 2, top}, true)
	m = of(2, 3, 1, 1) // half of v_0 less v_1, half of thrice v_1 less v_0
	fails(t, m, []int64{top - 1, top}, []int64{0, 0}, api.ErrOver)
	settles(t, m, []int64{1 - top, -top}, []int64{0, 0}, -1, []int64{1, -top}, false) // of two the greater one
	settles(t, m, []int64{top, top}, []int64{0, 0}, 0, []int64{0, top}, true)
}

// TestResidualTooGreat: what an int64 just has of a start, and what it hasn't, in whatever row.
func TestResidualTooGreat(t *testing.T) {
	const far = 1 << 33 // edge times that is 2 to the 63
	for n := 1; n <= api.MaxDim; n++ {
		for at := range n {
			for _, by := range []int64{1, -1} {
				start, v := make([]int64, n), make([]int64, n)
				start[at] = far * by
				fails(t, diagonal(n, edge), v, start, api.ErrOver)
				v[at] = by
				checkSettle(t, diagonal(n, edge), v, start, 1)
				v[at] = -by
				fails(t, diagonal(n, edge), v, start, api.ErrOver)
				start[at] = top * by
				fails(t, diagonal(n, edge), v, start, api.ErrOver)
			}
		}
	}
}

// TestOrder: of all that is wrong, what the chapter names first is told.
func TestOrder(t *testing.T) {
	sure, flat, great := of(2, 2, 1, 1), sym.New(2), []int64{top, -top} // of sure and great, the solution is too great
	for _, x := range []struct {
		m        api.Sym
		v, start []int64
		want     api.Errno
	}{
		{of(2, edge+1, 0, 0), all(2, top+1), all(3, top+1), api.ErrSize},
		{flat, all(1, top+1), all(2, top+1), api.ErrSize},
		{flat, all(2, top+1), all(3, 0), api.ErrOver},
		{sure, all(2, top+1), all(1, 0), api.ErrOver},
		{flat, all(2, top), all(3, 0), api.ErrLoose},
		{flat, all(2, 0), all(2, top+1), api.ErrLoose},
		{flat, all(2, 0), all(2, top), api.ErrLoose},
		{flat, great, all(1, 0), api.ErrLoose},
		{sure, great, all(1, 0), api.ErrOver},
		{sure, great, nil, api.ErrOver},
		{sure, all(2, 1), all(1, top+1), api.ErrSize},
		{sure, all(2, 1), all(3, math.MinInt64), api.ErrSize},
		{sure, all(2, 1), []int64{0, top + 1}, api.ErrOver},
		{of(2, edge, 0, edge), all(2, 1), all(2, 1<<40), api.ErrOver},
	} {
		fails(t, x.m, x.v, x.start, x.want)
	}
}
