package solve_test

import (
	"slices"
	"testing"

	"leadline/api"
	"leadline/solve"
	"leadline/wide"
)

func TestWrittenDown(t *testing.T) {
	m := matrix(2, 2, 1, 2)
	exactIs(t, m, []int64{3, 3}, 3, 3, 3) // 1 and 1, but over the determinant
	nearIs(t, m, []int64{3, 3}, 1, 1)
	exactIs(t, m, []int64{0, 0}, 3, 0, 0)
	exactIs(t, m, []int64{1, 0}, 3, 2, -1)
	exactIs(t, m, []int64{-4, 7}, 3, -15, 18)
	nearIs(t, m, []int64{-4, 7}, -5, 6)
	quadIs(t, m, []int64{1, -1}, 6, 3)
	quadIs(t, m, []int64{2, 1}, 6, 3)
	columnIs(t, m, 0, 3, 2, -1)
	columnIs(t, m, 1, 3, -1, 2)
	exactIs(t, matrix(2, 4, 0, 6), []int64{8, 12}, 24, 48, 48)
	m = matrix(3, 4, -2, 1, 3, 0, 2)
	exactIs(t, m, []int64{1, 2, 3}, 13, 5, 12, 17)
	nearIs(t, m, []int64{1, 2, 3}, 0, 1, 1)
	quadIs(t, m, []int64{1, 2, 3}, 80, 13)
	columnIs(t, m, 0, 13, 6, 4, -3)
	columnIs(t, m, 1, 13, 4, 7, -2)
	columnIs(t, m, 2, 13, -3, -2, 8)
	m = matrix(4, 2, -1, 0, 0, 2, -1, 0, 2, -1, 2)
	exactIs(t, m, []int64{1, 0, 0, 1}, 5, 5, 5, 5, 5)
	columnIs(t, m, 1, 5, 3, 6, 4, 2)
	quadIs(t, m, []int64{0, 1, 1, 0}, 20, 5)
}

func TestNoRows(t *testing.T) {
	for _, m := range []api.Sym{{}, {A: []int64{}}, {A: make([]int64, 0, 9)}} {
		for _, v := range [][]int64{nil, {}, make([]int64, 0, 3)} {
			exactIs(t, m, v, 1)
			nearIs(t, m, v)
			quadIs(t, m, v, 0, 1)
			residualIs(t, m, v, v, 0)
			residualIs(t, m, v, nil, 0)
		}
		for _, i := range []int{0, 1, -1} {
			columnFails(t, m, i, api.ErrRange)
		}
	}
}

func TestOneRow(t *testing.T) {
	for _, d := range []int64{1, 2, 3, 5, 1000, edge - 1, edge} {
		m := matrix(1, d)
		for _, v := range []int64{0, 1, -1, 2, 7, -30, top, -top, top - 1, 1 - top} {
			exactIs(t, m, []int64{v}, d, v)
			check(t, m, []int64{v})
		}
		quadIs(t, m, []int64{0}, 0, d)
		quadIs(t, m, []int64{-7}, 49, d)
		columnIs(t, m, 0, d, 1)
		columnFails(t, m, 1, api.ErrRange)
		columnFails(t, m, -1, api.ErrRange)
	}
	for _, d := range []int64{0, -1, -edge} {
		listFails(t, matrix(1, d), []int64{3}, api.ErrLoose)
		columnFails(t, matrix(1, d), 0, api.ErrLoose)
	}
}

// TestByChance holds all sizes, entries and numbers of all lengths.
func TestByChance(t *testing.T) {
	c := &chance{71}
	near, over := 0, 0
	for n := 1; n <= api.MaxDim; n++ {
		for range 8 {
			for _, most := range []int64{3, 40, 3000, 1 << 20, edge} {
				for _, length := range []int64{1, 9, 1000, 1 << 30, top} {
					if check(t, c.heavy(n, most), c.vector(n, length)) {
						t.Errorf("P7.1: a solution that isn't greater than %d is too great", length)
					}
				}
			}
			for _, most := range []int64{1, 6, 300} {
				for _, length := range []int64{5, 1 << 40, top} {
					if check(t, c.unit(n, most), c.vector(n, length)) {
						over++
					} else {
						near++
					}
				}
			}
		}
	}
	if near < 100 || over < 100 {
		t.Errorf("P7.1: %d times near, %d times too great", near, over)
	}
}

// TestEveryOne holds all matrices of few rows and entries: those that are definite are solved, the others are loose.
func TestEveryOne(t *testing.T) {
	solved, loose := 0, 0
	for n := 1; n <= 3; n++ {
		all := 1
		for range n * (n + 1) / 2 {
			all *= 5
		}
		for at := range all {
			rest := at
			m := laid(n, func(i, j int) int64 { v := rest % 5; rest /= 5; return int64(v - 2) })
			v := []int64{5, -3, 1}[:n]
			if definite(m) {
				solved++
				check(t, m, v)
				continue
			}
			loose++
			listFails(t, m, v, api.ErrLoose)
			columnFails(t, m, n-1, api.ErrLoose)
		}
	}
	if solved < 100 || loose < 100 {
		t.Errorf("P7.1: %d are solved, %d loose", solved, loose)
	}
}

// TestSame: what is told solves m x = v, each column at once.
func TestSame(t *testing.T) {
	c := &chance{72}
	for n := 1; n <= api.MaxDim; n++ {
		for range 30 {
			m := c.heavy(n, 1+c.upTo(edge/2)+edge/2)
			for i := range n {
				one := make([]int64, n)
				one[i] = 1
				column, err := solve.Column(m, i)
				exact, other := solve.Exact(m, one)
				if err != nil || other != nil || !slices.Equal(column, exact) {
					t.Errorf("P7.1: Column(%v, %d): %v, %v; Exact: %v, %v", m, i, ratios(column...), err, ratios(exact...), other)
				}
			}
			x := c.vector(n, 1<<20)
			v := make([]int64, n)
			for i, row := range full(m) {
				v[i] = dot(row, bigs(x)).Int64()
			}
			nearIs(t, m, v, x...)
			residualIs(t, m, x, v, 0)
		}
	}
}

// TestMostRows: MaxDim rows of entries of just MaxEntry's amount, and numbers of just MaxVector's.
func TestMostRows(t *testing.T) {
	c := &chance{73}
	for n := 2; n <= api.MaxDim; n++ {
		for _, m := range []api.Sym{diagonal(n, edge, 0), diagonal(n, edge, edge-1), diagonal(n, edge, 1), more(diagonal(n, edge-1, edge-2), 1)} {
			for range 10 {
				v := make([]int64, n)
				for i := range v {
					v[i] = []int64{top, -top, top - 1, 1 - top, 0}[c.next()%5]
				}
				check(t, m, v)
			}
			check(t, m, slices.Repeat([]int64{top}, n))
			check(t, m, slices.Repeat([]int64{-top}, n))
		}
		greatest := diagonal(n, edge, edge) // not definite, all the same with one row
		listFails(t, greatest, slices.Repeat([]int64{top}, n), api.ErrLoose)
	}
	columnFails(t, diagonal(api.MaxDim, edge, 0), api.MaxDim, api.ErrRange)
	got, err := solve.Quad(diagonal(api.MaxDim, edge, 0), slices.Repeat([]int64{-top}, api.MaxDim))
	num, den := wide.Of(1), wide.Of(1) // 8 times 2 to the 112 times 2 to the 210, over 2 to the 240
	for range 3 + 112 + 210 {
		num, _ = wide.Add(num, num)
	}
	for range 240 {
		den, _ = wide.Add(den, den)
	}
	if err != nil || got.Num != num || got.Den != den {
		t.Errorf("P7.1: Quad of the greatest: %v, %v", ratios(got), err)
	}
}

// TestGreatest: eight rows definite by one whose solution of MaxVector's numbers is as great as that; fractions are kept whole.
func TestGreatest(t *testing.T) {
	c := &chance{74}
	for n := 2; n <= api.MaxDim; n++ {
		for range 8 {
			m := c.unit(n, 11500) // 8 times 11500 times itself is just below edge
			v := make([]int64, n)
			for i := range v {
				v[i] = []int64{top, -top}[c.next()%2]
			}
			if !check(t, m, v) {
				t.Errorf("P7.1: Near(%v, %d) isn't too great", m, v)
			}
			for i := range n {
				check(t, m, c.vector(n, 1)) // columns, among others
				one := make([]int64, n)
				one[i] = 1
				column, err := solve.Column(m, i)
				if err != nil || !alike(ratios(column...), cramer(m, one)) {
					t.Errorf("P7.1: Column(%v, %d): %v, %v", m, i, ratios(column...), err)
				}
			}
		}
	}
}

// TestDefiniteByOne: all minors are 1: there is a solution; by one less at the end, and there is none.
func TestDefiniteByOne(t *testing.T) {
	c := &chance{75}
	for n := 1; n <= api.MaxDim; n++ {
		for _, most := range []int64{0, 1, 7, 300, 11500} {
			for range 5 {
				m, v := c.unit(n, most), c.vector(n, 50)
				check(t, m, v)
				exact, err := solve.Exact(m, v)
				for _, f := range exact {
					if err != nil || f.Den != wide.Of(1) {
						t.Errorf("P7.1: Exact(%v, %d): %v, %v", m, v, ratios(f), err)
					}
				}
				for _, less := range []int64{1, 2, 3} {
					listFails(t, more(m, -less), v, api.ErrLoose)
					for i := range n {
						columnFails(t, more(m, -less), i, api.ErrLoose)
					}
				}
			}
		}
	}
}

// TestHalves: of a quotient that is just a half the greater number counts, above and below nought; beside it the nearest.
func TestHalves(t *testing.T) {
	two, three := matrix(1, 2), matrix(1, 3)
	for v, want := range map[int64]int64{1: 1, -1: 0, 3: 2, -3: -1, 5: 3, -5: -2, 0: 0, 2: 1, -2: -1, top - 1: top / 2, 1 - top: 1 - top/2} {
		nearIs(t, two, []int64{v}, want)
	}
	for v, want := range map[int64]int64{1: 0, 2: 1, -1: 0, -2: -1, 4: 1, 5: 2, -4: -1, -5: -2} {
		nearIs(t, three, []int64{v}, want)
	}
	great := matrix(1, edge)
	for v, want := range map[int64]int64{edge / 2: 1, edge/2 - 1: 0, -edge / 2: 0, -edge/2 - 1: -1, edge/2*3 - 1: 1, edge / 2 * 3: 2, -edge / 2 * 3: -1, -edge/2*3 - 1: -2} {
		nearIs(t, great, []int64{v}, want)
	}
	m := matrix(2, 3, 1, 3) // of determinant 8
	nearIs(t, m, []int64{2, 2}, 1, 1)
	nearIs(t, m, []int64{-2, -2}, 0, 0)
	nearIs(t, m, []int64{1, -1}, 1, 0)
	nearIs(t, m, []int64{-5, 1}, -2, 1)
	nearIs(t, m, []int64{-6, -6}, -1, -1)
	for n := 1; n <= api.MaxDim; n++ {
		m := diagonal(n, int64(2*n+2), 2) // of ones all rows tell 4 n
		nearIs(t, m, slices.Repeat([]int64{int64(2 * n)}, n), slices.Repeat([]int64{1}, n)...)
		nearIs(t, m, slices.Repeat([]int64{int64(-2 * n)}, n), make([]int64, n)...)
		nearIs(t, m, slices.Repeat([]int64{int64(2*n - 1)}, n), make([]int64, n)...)
		nearIs(t, m, slices.Repeat([]int64{int64(-2*n - 1)}, n), slices.Repeat([]int64{-1}, n)...)
	}
}

// TestAnswerTooGreat: Near's numbers end at MaxVector's amount, behind rounding; those of the others don't.
func TestAnswerTooGreat(t *testing.T) {
	m := matrix(2, 2, 1, 1) // its columns: 1, -1 and -1, 2
	nearIs(t, m, []int64{top, 0}, top, -top)
	nearIs(t, m, []int64{-top, 0}, -top, top)
	nearIs(t, m, []int64{top, top}, 0, top)
	half := int64(top / 2)
	nearIs(t, m, []int64{0, half}, -half, top)
	nearIs(t, m, []int64{0, -half}, half, -top)
	nearIs(t, m, []int64{top - 2, -1}, top-1, -top)
	nearIs(t, m, []int64{2 - top, 1}, 1-top, top)
	for _, v := range [][]int64{{top - 1, -1}, {1 - top, 1}, {0, half + 1}, {0, -half - 1}, {top, -top}, {-top, top}, {0, top}, {0, -top}} {
		if !check(t, m, v) {
			t.Errorf("P7.1: Near(%v, %d) isn't too great", m, v)
		}
	}
	exactIs(t, m, []int64{top, -top}, 1, 2*top, -3*top)
	m = matrix(2, 3, 2, 2) // of determinant 2: the solution is v - w, and 3 w - 2 v over 2
	for _, x := range []struct {
		v, w     int64
		tooGreat bool
	}{
		{0, top / 3 * 2, false},    // the second number is 1 below top
		{0, top/3*2 + 1, true},     // a half above top: the greater one is too great
		{0, -(top/3*2 + 1), false}, // a half below -top: the greater one is -top
		{0, -(top/3*2 + 2), true},  // 2 below -top
		{-1, top / 3 * 2, false},   // just top
		{-2, top / 3 * 2, true},    // 1 above top
		{1, -(top / 3 * 2), false}, // just -top
		{2, -(top / 3 * 2), true},  // 1 below -top
		{top, 0, false},            // just top, just -top
		{-top, 0, false},
		{top, -1, true},
		{-top, 1, true},
	} {
		if got := check(t, m, []int64{x.v, x.w}); got != x.tooGreat {
			t.Errorf("P7.1: Near(%v, %d) is too great: %v", m, []int64{x.v, x.w}, got)
		}
	}
	nearIs(t, m, []int64{0, -(top/3*2 + 1)}, top/3*2+1, -top)
}
