package gate_test

import (
	"math"
	"slices"
	"testing"

	"leadline/api"
	"leadline/fault"
	"leadline/gate"
	"leadline/solve"
)

// wrongs tells matrices that aren't right.
func wrongs() []api.Sym {
	l := []api.Sym{
		matrix(0, 1), matrix(1), matrix(1, 1, 1), matrix(2, 1, 0), matrix(2), matrix(2, 1, 0, 1, 0),
		matrix(8, make([]int64, 35)...), matrix(8, make([]int64, 37)...), matrix(8, make([]int64, 64)...),
		diagonal(9, 1, 0), matrix(9), matrix(-1), matrix(-1, 1), matrix(-2, 5), matrix(-9, make([]int64, 36)...),
		matrix(math.MaxInt), matrix(math.MinInt), matrix(1 << 32), matrix(-1 << 32),
	}
	for _, v := range []int64{edge + 1, -edge - 1, 1 << 32, math.MaxInt64, math.MinInt64} {
		l = append(l, matrix(1, v), matrix(2, v, 0, edge), matrix(2, edge, v, edge), matrix(2, edge, 0, v), with(diagonal(8, 1, 0), 7, 7, v))
	}
	return l
}

// loose tells matrices of n rows that are right, but not definite.
func loose(n int) []api.Sym {
	return []api.Sym{diagonal(n, 0, 0), diagonal(n, -1, 0), diagonal(n, -edge, 0), with(diagonal(n, 1, 0), n-1, n-1, 0), with(diagonal(n, 1, 0), n-1, n-1, -1), with(diagonal(n, edge, 0), 0, 0, 0), with(diagonal(n, 1, 0), 0, n-1, -1-int64(n))}
}

// TestUnits: each measure one past its end, and farther, the others as they may be.
func TestUnits(t *testing.T) {
	m, h := diagonal(2, 5, 1), []int64{1, -1}
	for _, x := range []struct{ off, weight, gamma int64 }{
		{4194305, 1, 1}, {-4194305, 1, 1},
		{0, 0, 1}, {0, -1, 1}, {0, 4097, 1},
		{0, 1, 0}, {0, 1, -1}, {0, 1, 4097},
		{math.MinInt64, 1, 1}, {math.MaxInt64, 1, 1},
		{0, math.MinInt64, 1}, {0, math.MaxInt64, 1},
		{0, 1, math.MinInt64}, {0, 1, math.MaxInt64},
	} {
		fails(t, asked{m, h, x.off, x.weight, x.gamma}, api.ErrUnits)
	}
	passes(t, asked{m, h, 0, 1, 1})
	passes(t, asked{m, h, 0, 4096, 4096})
	gated(t, asked{m, h, 4194304, 1, 1})
	gated(t, asked{m, h, -4194304, 4096, 4096})
	for _, off := range outside(-farthest, farthest) {
		for _, weight := range []int64{1, 100, heaviest} {
			for _, gamma := range []int64{1, 100, widest} {
				fails(t, asked{m, h, off, weight, gamma}, 27)
			}
		}
	}
	for _, off := range []int64{-farthest, -1, 0, 7, farthest} {
		for _, v := range outside(1, heaviest) {
			for _, other := range []int64{1, 100, widest} {
				fails(t, asked{m, h, off, v, other}, 27)
				fails(t, asked{m, h, off, other, v}, 27)
			}
		}
	}
}

// TestMoreUnits: two measures that may not be, and all three; where their products go round, too.
func TestMoreUnits(t *testing.T) {
	for _, m := range []api.Sym{diagonal(1, 1, 0), diagonal(1, 0, 0), matrix(1)} {
		h := []int64{1}
		for _, off := range outside(-farthest, farthest) {
			for _, v := range outside(1, heaviest) {
				fails(t, asked{m, h, off, v, 9}, 27)
				fails(t, asked{m, h, off, 9, v}, 27)
				fails(t, asked{m, h, off, v, v}, 27)
				fails(t, asked{m, h, 3, v, off}, 27)
			}
		}
		for _, v := range outside(1, heaviest) {
			for _, w := range outside(1, widest) {
				fails(t, asked{m, h, 3, v, w}, 27)
			}
		}
	}
}

// TestUnitsFirst: a measure that may not be is told ahead of all that is wrong with the matrix and the list.
func TestUnitsFirst(t *testing.T) {
	measures := []struct{ off, weight, gamma int64 }{{farthest + 1, 1, 1}, {-farthest - 1, 1, 1}, {0, 0, 1}, {0, heaviest + 1, 1}, {0, 1, 0}, {0, 1, widest + 1}, {math.MinInt64, math.MinInt64, math.MinInt64}}
	for _, x := range measures {
		for _, m := range wrongs() {
			for _, h := range [][]int64{nil, {1}, {1, 1}, {top + 1}, make([]int64, 8)} {
				fails(t, asked{m, h, x.off, x.weight, x.gamma}, 27)
			}
		}
		for _, h := range [][]int64{nil, {1}, {1, 1, 1}, {top + 1, 0}, {0, math.MinInt64}, {1, 1}} {
			fails(t, asked{diagonal(2, 5, 1), h, x.off, x.weight, x.gamma}, 27)
			fails(t, asked{diagonal(2, 0, 0), h, x.off, x.weight, x.gamma}, 27)
		}
	}
}

// TestNotRight: a matrix that isn't right: solve's error, whatever the list, and however far off the range is.
func TestNotRight(t *testing.T) {
	for _, m := range wrongs() {
		for _, v := range []int64{0, 1, top + 1, math.MinInt64} {
			for n := range 10 {
				asksSolve(t, asked{m, slices.Repeat([]int64{v}, n), farthest, 1, 1}, 23)
			}
		}
		asksSolve(t, asked{m, nil, 0, 1, 1}, api.ErrSize)
	}
}

// TestOtherSize: a list of another size, also beside numbers that are too great and a matrix that is loose.
func TestOtherSize(t *testing.T) {
	for n := range 9 {
		for size := range 12 {
			if size == n {
				continue
			}
			for _, v := range []int64{0, 1, top + 1, math.MinInt64} {
				for _, m := range []api.Sym{diagonal(n, 5, 1), diagonal(n, 0, 0)} {
					asksSolve(t, asked{m, slices.Repeat([]int64{v}, size), farthest, 1, 1}, 23)
				}
			}
		}
	}
	asksSolve(t, asked{matrix(2, 2, 1, 2), []int64{1}, 0, 1, 1}, api.ErrSize)
}

// TestTooGreat: a number of the list just at MaxVector and one past it, at each place; it is told ahead of a matrix that is loose.
func TestTooGreat(t *testing.T) {
	for n := 1; n <= 8; n++ {
		for i := range n {
			for _, v := range []int64{top + 1, -top - 1, 1 << 60, math.MaxInt64, math.MinInt64, math.MinInt64 + 1} {
				h := make([]int64, n)
				h[i] = v
				asksSolve(t, asked{diagonal(n, 5, 0), h, 0, 1, 1}, 21)
				for _, m := range loose(n) {
					asksSolve(t, asked{m, h, farthest, 1, 1}, 21)
				}
			}
			for _, v := range []int64{top, -top} {
				h := make([]int64, n)
				h[i] = v
				passes(t, asked{diagonal(n, 5, 0), h, farthest, heaviest, 1})
				for _, m := range loose(n) {
					asksSolve(t, asked{m, h, 0, 1, 1}, 30)
				}
			}
		}
	}
}

// TestLoose: a matrix that isn't definite, however near or far off the range is, and whatever the list.
func TestLoose(t *testing.T) {
	for n := 1; n <= 8; n++ {
		for _, m := range loose(n) {
			for _, v := range []int64{0, 1, -256, top} {
				for _, off := range []int64{0, 1, farthest, -farthest} {
					asksSolve(t, asked{m, slices.Repeat([]int64{v}, n), off, 1, 1}, 30)
					asksSolve(t, asked{m, slices.Repeat([]int64{v}, n), off, heaviest, widest}, 30)
				}
			}
		}
	}
	asksSolve(t, asked{matrix(2, -2, 0, -2), []int64{1, 1}, 0, 1, 1}, api.ErrLoose) // its determinant is above 0
	asksSolve(t, asked{matrix(2, edge, edge, edge), []int64{1, 1}, 0, 1, 1}, api.ErrLoose)
}

// TestAsQuad: of each matrix with each list Pass tells what solve.Quad tells, behind gate, or nothing of it.
func TestAsQuad(t *testing.T) {
	d := thrown(2)
	l := wrongs()
	for n := range 9 {
		l = append(l, loose(max(n, 1))...)
		l = append(l, heavy(d, n, edge), narrow(d, n, 50))
	}
	for _, m := range l {
		for n := range 10 {
			for _, most := range []int64{3, top, 4 * top} {
				h := vector(d, n, most)
				_, err := solve.Quad(m, h)
				if err == nil {
					holds(t, asked{m, h, 1000, 3, 9})
					continue
				}
				a := asked{m, h, 1000, 3, 9}
				asksSolve(t, a, fault.Code(err))
				if ops, want := fault.Ops(pass(t, a)), append([]string{"gate"}, fault.Ops(err)...); !slices.Equal(ops, want) {
					t.Errorf("P17.1: Pass(%v): ops %q instead of %q", a, ops, want)
				}
			}
		}
	}
}

// TestErrorsAreTheCallers: who changes an error that was told changes no other one.
func TestErrorsAreTheCallers(t *testing.T) {
	for _, a := range []asked{{diagonal(1, 1, 0), []int64{1}, farthest, 1, 1}, {diagonal(1, 1, 0), []int64{1}, 0, 0, 1}, {diagonal(1, 0, 0), []int64{1}, 0, 1, 1}} {
		first := gate.Pass(a.m, a.h, a.off, a.weight, a.gamma)
		second := gate.Pass(a.m, a.h, a.off, a.weight, a.gamma)
		f, ok := first.(*fault.Fault)
		if !ok {
			t.Fatalf("P17.1: %v is no fault", first)
		}
		number, ops := fault.Code(first), fault.Ops(first)
		if inner, ok := f.Err.(*fault.Fault); ok {
			inner.Op, inner.Err = "changed", nil
		}
		f.Op, f.Err = "changed", nil
		isWrong(t, a, second, number, ops[1:]...)
		fails(t, a, number, ops[1:]...)
	}
}
