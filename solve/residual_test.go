package solve_test

import (
	"math"
	"math/big"
	"slices"
	"testing"

	"leadline/api"
)

// greatestOff tells what P7.2 promises of Residual: the greatest amount of m x less v.
func greatestOff(m api.Sym, x, v []int64) *big.Int {
	greatest := new(big.Int)
	for i, row := range full(m) {
		off := dot(row, bigs(x))
		off.Sub(off, big.NewInt(v[i]))
		if off.CmpAbs(greatest) > 0 {
			greatest.Abs(off)
		}
	}
	return greatest
}

// checkResidual holds Residual against what is promised; it tells whether an int64 hasn't it.
func checkResidual(t *testing.T, m api.Sym, x, v []int64) bool {
	t.Helper()
	want := greatestOff(m, x, v)
	if !want.IsInt64() {
		residualFails(t, m, x, v, api.ErrOver)
		return true
	}
	residualIs(t, m, x, v, want.Int64())
	return false
}

func TestResidualWrittenDown(t *testing.T) {
	m := matrix(2, 2, 1, 2)
	residualIs(t, m, []int64{1, 1}, []int64{3, 3}, 0)
	residualIs(t, m, []int64{1, 1}, []int64{3, 5}, 2)
	residualIs(t, m, []int64{1, 1}, []int64{9, 5}, 6)
	residualIs(t, m, []int64{1, 1}, []int64{-1, 5}, 4)
	residualIs(t, m, []int64{0, 0}, []int64{-8, 7}, 8)
	residualIs(t, m, []int64{0, 0}, []int64{7, -8}, 8)
	residualIs(t, m, []int64{0, 0}, []int64{-7, 8}, 8)
	residualIs(t, m, []int64{5, -5}, []int64{0, 0}, 5)
	residualIs(t, matrix(3, 1, 2, 3, 4, 5, 6), []int64{1, -1, 10}, []int64{29, 48, 57}, 1)
	residualIs(t, matrix(3, 0, 0, 0, 0, 0, 0), []int64{top, top, top}, []int64{0, 0, 0}, 0) // loose matrices too
	residualIs(t, matrix(2, -2, 0, -2), []int64{4, 3}, []int64{0, 0}, 8)
}

// TestResidualEachRow: the greatest amount counts in whatever row it is, on whatever side of nought.
func TestResidualEachRow(t *testing.T) {
	for n := 1; n <= api.MaxDim; n++ {
		for at := range n {
			for _, far := range []int64{50, -50} {
				v := make([]int64, n)
				for i := range v {
					v[i] = int64(i*7%5) - 40
				}
				v[at] = far
				residualIs(t, diagonal(n, 1, 0), make([]int64, n), v, 50)
				residualIs(t, diagonal(n, 1, 0), v, make([]int64, n), 50)
				residualIs(t, diagonal(n, -3, 0), v, make([]int64, n), 150)
				checkResidual(t, diagonal(n, 9, 2), v, v)
			}
		}
	}
}

// TestResidualEdge: just what an int64 has, and one more, on both sides of nought.
func TestResidualEdge(t *testing.T) {
	m := matrix(1, edge)
	const x = 1 << 33 // edge x is 2 to the 63
	residualIs(t, m, []int64{x}, []int64{1}, math.MaxInt64)
	residualIs(t, m, []int64{-x}, []int64{-1}, math.MaxInt64)
	residualIs(t, m, []int64{x - 1}, []int64{-edge + 1}, math.MaxInt64)
	residualIs(t, m, []int64{1 - x}, []int64{edge - 1}, math.MaxInt64)
	residualIs(t, m, []int64{x}, []int64{top}, math.MaxInt64-top+1)
	for _, l := range [][2]int64{{x, 0}, {-x, 0}, {x - 1, -edge}, {1 - x, edge}, {x, -1}, {-x, 1}, {top, 0}, {-top, 0}, {top, top}, {2 * x, 0}, {4 * x, 0}, {-4 * x, 0}, {1 << 34, 0}, {1 << 35, 1}, {-1 << 50, 5}} {
		residualFails(t, m, []int64{l[0]}, []int64{l[1]}, api.ErrOver)
	}
	for n := 2; n <= api.MaxDim; n++ {
		for at := range n { // in one row alone
			far := make([]int64, n)
			far[at] = x
			residualFails(t, diagonal(n, edge, 0), far, make([]int64, n), api.ErrOver)
			far[at] = -x
			residualFails(t, diagonal(n, edge, 0), far, make([]int64, n), api.ErrOver)
			near := make([]int64, n)
			near[at] = -1
			residualIs(t, diagonal(n, edge, 0), far, near, math.MaxInt64)
		}
		most := slices.Repeat([]int64{top}, n)
		residualFails(t, diagonal(n, edge, edge), most, most, api.ErrOver)
		residualFails(t, diagonal(n, -edge, -edge), most, most, api.ErrOver)
	}
}

// TestResidualOnTheWay: products and sums that an int64 hasn't, of which what is left is small.
func TestResidualOnTheWay(t *testing.T) {
	m := diagonal(2, edge, edge)
	residualIs(t, m, []int64{top, -top}, []int64{0, 0}, 0)
	residualIs(t, m, []int64{top, -top + 3}, []int64{5, 0}, 3*edge)
	for n := 2; n <= api.MaxDim; n += 2 {
		x := make([]int64, n)
		for i := range x {
			x[i] = []int64{top, -top}[i%2]
		}
		v := slices.Repeat([]int64{top}, n)
		residualIs(t, diagonal(n, -edge, -edge), x, make([]int64, n), 0)
		residualIs(t, diagonal(n, edge, edge), x, v, top)
	}
}

func TestResidualByChance(t *testing.T) {
	c := &chance{76}
	fits, over := 0, 0
	for n := range api.MaxDim + 1 {
		for range 30 {
			for _, most := range []int64{2, 1000, edge} {
				for _, length := range []int64{3, 1 << 20, 1 << 31, 1 << 34, top} {
					m := laid(n, func(i, j int) int64 { return c.upTo(most) })
					if checkResidual(t, m, c.vector(n, length), c.vector(n, []int64{9, 1 << 40, top}[c.next()%3])) {
						over++
					} else {
						fits++
					}
				}
			}
		}
	}
	if fits < 500 || over < 500 {
		t.Errorf("P7.2: %d fit, %d don't", fits, over)
	}
}
