package sym_test

import (
	"math"
	"math/big"
	"slices"
	"testing"

	"leadline/api"
	"leadline/fault"
	"leadline/sym"
)

const (
	least = math.MinInt64
	most  = math.MaxInt64
)

// chance tells numbers that come by chance, always the same ones.
type chance struct{ seed uint64 }

func (c *chance) next() uint64 {
	c.seed = c.seed*6364136223846793005 + 1442695040888963407
	return c.seed>>33 ^ c.seed<<31
}

// entry tells a number of an amount of MaxEntry at most, the edges among them.
func (c *chance) entry() int64 {
	if edge := c.next() % 8; edge < 3 {
		return []int64{api.MaxEntry, -api.MaxEntry, 0}[edge]
	}
	return int64(c.next()%(2*api.MaxEntry+1)) - api.MaxEntry
}

// number tells an int64 of any length, the edges among them.
func (c *chance) number() int64 {
	if edge := c.next() % 8; edge < 3 {
		return []int64{most, least, 0}[edge]
	}
	return int64(c.next()) >> (c.next() % 64)
}

// list tells n numbers.
func list(n int, next func() int64) []int64 {
	var l []int64
	for range n {
		l = append(l, next())
	}
	return l
}

// triangle tells how many entries n rows have.
func triangle(n int) int {
	count := 0
	for i := range n {
		count += n - i
	}
	return count
}

// matrix tells the matrix of n rows and these entries.
func matrix(n int, a ...int64) api.Sym {
	return api.Sym{N: n, A: a}
}

// matrices tells right matrices of all sizes: noughts, edges, a number of its own at each entry, and such as come by chance.
func matrices() []api.Sym {
	c := &chance{5}
	var l []api.Sym
	for n := range api.MaxDim + 1 {
		count := triangle(n)
		own := int64(100)
		l = append(l,
			matrix(n, make([]int64, count)...),
			matrix(n, slices.Repeat([]int64{api.MaxEntry}, count)...),
			matrix(n, slices.Repeat([]int64{-api.MaxEntry}, count)...),
			matrix(n, list(count, func() int64 { own++; return own })...),
			matrix(n, list(count, c.entry)...),
			matrix(n, list(count, c.entry)...))
	}
	return l
}

// wrongs tells matrices that aren't right.
func wrongs() []api.Sym {
	l := []api.Sym{
		matrix(0, 0), matrix(1), matrix(1, 1, 2), matrix(2, 1, 2), matrix(2, 1, 2, 3, 4), matrix(8, make([]int64, 35)...), matrix(8, make([]int64, 37)...),
		matrix(2, make([]int64, 4)...),  // as a square
		matrix(9, make([]int64, 45)...), // one row more than MaxDim
		matrix(9), matrix(9, make([]int64, 36)...),
		matrix(-1), matrix(-1, 1), matrix(-2, 5), matrix(-9, make([]int64, 36)...), // N (N + 1) / 2 entries, as if there were such rows
		matrix(most), matrix(least), matrix(1<<32 - 1), matrix(-1 << 32), matrix(1 << 62), matrix(math.MaxInt32),
	}
	for _, v := range []int64{api.MaxEntry + 1, -api.MaxEntry - 1, 1 << 32, 1 << 62, most, least, least + 1} {
		l = append(l, matrix(1, v), matrix(2, v, 0, 0), matrix(2, 0, v, 0), matrix(2, 0, 0, v))
		eight := make([]int64, 36)
		eight[35] = v
		l = append(l, matrix(8, eight...))
	}
	return l
}

// full tells all entries of m, row by row, as P5.1 lays them.
func full(m api.Sym) [][]int64 {
	rows := make([][]int64, m.N)
	for i := range rows {
		rows[i] = make([]int64, m.N)
	}
	at := 0
	for i := range m.N {
		for j := i; j < m.N; j++ {
			rows[i][j], rows[j][i] = m.A[at], m.A[at]
			at++
		}
	}
	return rows
}

// upper tells the matrix whose entries these rows are.
func upper(rows [][]int64) api.Sym {
	m := api.Sym{N: len(rows)}
	for i, row := range rows {
		m.A = append(m.A, row[i:]...)
	}
	return m
}

// same tells whether a and b are one matrix.
func same(a, b api.Sym) bool {
	return a.N == b.N && slices.Equal(a.A, b.A)
}

// told holds an answer against the matrix want, and that there is no error.
func told(t *testing.T, name string, got api.Sym, err error, want api.Sym) {
	t.Helper()
	if err != nil || !same(got, want) {
		t.Errorf("%s: %v, %v instead of %v", name, got, err, want)
	}
}

// refused holds an answer against the error of that number, and that there is nothing beside it.
func refused(t *testing.T, name string, got api.Sym, err error, want api.Errno) {
	t.Helper()
	number(t, name, err, want)
	if got.N != 0 || len(got.A) != 0 {
		t.Errorf("%s: %v beside an error", name, got)
	}
}

// number holds an error against its number, and that package sym told it, as a Fault.
func number(t *testing.T, name string, err error, want api.Errno) {
	t.Helper()
	ops := fault.Ops(err)
	if err == nil || fault.Code(err) != want || !fault.Is(err, want) || len(ops) == 0 || ops[0] != "sym" {
		t.Errorf("%s: %v, of %q, instead of %v", name, err, ops, want)
	}
	if _, ok := err.(*fault.Fault); !ok {
		t.Errorf("%s: the error is a %T", name, err)
	}
}

func TestNew(t *testing.T) {
	for _, x := range []struct{ n, want int }{
		{0, 0}, {1, 1}, {2, 2}, {3, 3}, {4, 4}, {5, 5}, {6, 6}, {7, 7}, {8, 8},
		{9, 8}, {10, 8}, {math.MaxInt32, 8}, {most, 8}, {-1, 0}, {-2, 0}, {math.MinInt32, 0}, {least, 0},
	} {
		m := sym.New(x.n)
		if m.N != x.want || len(m.A) != triangle(x.want) || slices.ContainsFunc(m.A, func(v int64) bool { return v != 0 }) {
			t.Errorf("P5.1: New(%d): %v", x.n, m)
		}
		if !sym.Right(m) {
			t.Errorf("P5.1: New(%d) isn't right", x.n)
		}
		for i := range m.A {
			m.A[i] = 7
		}
		if again := sym.New(x.n); slices.Contains(again.A, 7) {
			t.Errorf("P5.1: New(%d) tells the same memory again", x.n)
		}
	}
}

func TestRight(t *testing.T) {
	for _, m := range matrices() {
		if !sym.Right(m) {
			t.Errorf("P5.1: %v isn't right", m)
		}
	}
	if !sym.Right(api.Sym{}) || !sym.Right(api.Sym{A: []int64{}}) {
		t.Error("P5.1: no rows aren't right")
	}
	for _, m := range wrongs() {
		if sym.Right(m) {
			t.Errorf("P5.1: %v is right", m)
		}
	}
}

// TestRightEntries holds each entry of each size against its edges, of both signs.
func TestRightEntries(t *testing.T) {
	for n := 1; n <= api.MaxDim; n++ {
		for at := range triangle(n) {
			m := matrix(n, make([]int64, triangle(n))...)
			for v, want := range map[int64]bool{api.MaxEntry: true, -api.MaxEntry: true, api.MaxEntry + 1: false, -api.MaxEntry - 1: false, most: false, least: false} {
				m.A[at] = v
				if sym.Right(m) != want {
					t.Errorf("P5.1: of %d rows with %d at %d: %v", n, v, at, !want)
				}
			}
		}
	}
}

// TestRightLengths holds lists of all lengths against all sizes.
func TestRightLengths(t *testing.T) {
	for n := -9; n <= 12; n++ {
		for count := range 80 {
			want := n >= 0 && n <= api.MaxDim && count == triangle(n)
			if got := sym.Right(matrix(n, make([]int64, count)...)); got != want {
				t.Errorf("P5.1: %d rows of %d entries: %v", n, count, got)
			}
		}
	}
}

// TestSizeFirst: of a matrix that isn't right, each call tells ErrSize, whatever else is wrong.
func TestSizeFirst(t *testing.T) {
	for _, m := range wrongs() {
		for _, k := range []int{0, 1, -1, 9, most, least} {
			for _, v := range []int64{0, 1, most, least} {
				got, err := sym.At(m, k, 0)
				number(t, "P5.1: At", err, api.ErrSize)
				if got != 0 {
					t.Errorf("P5.1: At: %d beside an error", got)
				}
				out, err := sym.Set(m, 0, k, v)
				refused(t, "P5.1: Set", out, err, api.ErrSize)
				out, err = sym.Grow(m, k)
				refused(t, "P5.1: Grow", out, err, api.ErrSize)
				out, err = sym.Drop(m, k, k)
				refused(t, "P5.1: Drop", out, err, api.ErrSize)
				out, err = sym.Diag(m, v)
				refused(t, "P5.1: Diag", out, err, api.ErrSize)
				for n := range 10 {
					l := slices.Repeat([]int64{v}, n)
					out, err = sym.Outer(m, v, l)
					refused(t, "P5.1: Outer", out, err, api.ErrSize)
					wides, err := sym.Times(m, l)
					number(t, "P5.1: Times", err, api.ErrSize)
					if len(wides) != 0 {
						t.Errorf("P5.1: Times: %v beside an error", wides)
					}
				}
			}
		}
	}
}

func TestAt(t *testing.T) {
	for _, m := range matrices() {
		rows := full(m)
		for i := -2; i < m.N+3; i++ {
			for j := -2; j < m.N+3; j++ {
				got, err := sym.At(m, i, j)
				if i >= 0 && i < m.N && j >= 0 && j < m.N {
					if got != rows[i][j] || err != nil {
						t.Errorf("P5.2: At(%v, %d, %d): %d, %v instead of %d", m, i, j, got, err, rows[i][j])
					}
					continue
				}
				number(t, "P5.2: At no row", err, api.ErrRange)
				if got != 0 {
					t.Errorf("P5.2: At: %d beside an error", got)
				}
			}
		}
	}
}

func TestAtNoSuchRow(t *testing.T) {
	m := matrix(2, 5, 6, 7)
	for _, k := range []int{2, 3, 8, -1, -2, most, least, most - 1, least + 1, 1 << 32, -1 << 32, 1<<32 + 1} {
		for _, at := range [][2]int{{k, 0}, {0, k}, {k, 1}, {1, k}, {k, k}, {k, -k}} {
			got, err := sym.At(m, at[0], at[1])
			number(t, "P5.2: At no row", err, api.ErrRange)
			if got != 0 {
				t.Errorf("P5.2: At(%d): %d beside an error", at, got)
			}
			for _, v := range []int64{0, 1, api.MaxEntry + 1, most, least} { // ErrOver comes behind
				out, err := sym.Set(m, at[0], at[1], v)
				refused(t, "P5.2: Set no row", out, err, api.ErrRange)
			}
		}
	}
}

func TestSet(t *testing.T) {
	for _, m := range matrices() {
		for i := range m.N {
			for j := range m.N {
				for _, v := range []int64{0, 1, -1, 77, api.MaxEntry, -api.MaxEntry} {
					rows := full(m)
					rows[i][j], rows[j][i] = v, v
					out, err := sym.Set(m, i, j, v)
					told(t, "P5.2: Set", out, err, upper(rows))
				}
				for _, v := range []int64{api.MaxEntry + 1, -api.MaxEntry - 1, 1 << 32, 1<<32 + 1, -1 << 32, 1 << 62, most, least, least + 1} {
					out, err := sym.Set(m, i, j, v)
					refused(t, "P5.2: Set", out, err, api.ErrOver)
				}
			}
		}
		for _, k := range []int{-1, m.N} {
			out, err := sym.Set(m, k, 0, most)
			refused(t, "P5.2: Set no row", out, err, api.ErrRange)
		}
	}
}

// outer tells what Outer promises: a matrix, or nothing (false), if an entry's amount is too great.
func outer(m api.Sym, w int64, h []int64) (api.Sym, bool) {
	rows := full(m)
	for i := range rows {
		for j := range rows {
			v := new(big.Int).Mul(big.NewInt(w), big.NewInt(h[i]))
			v.Add(v.Mul(v, big.NewInt(h[j])), big.NewInt(rows[i][j]))
			if v.CmpAbs(big.NewInt(api.MaxEntry)) > 0 {
				return api.Sym{}, false
			}
			rows[i][j] = v.Int64()
		}
	}
	return upper(rows), true
}

func checkOuter(t *testing.T, m api.Sym, w int64, h []int64) bool {
	t.Helper()
	got, err := sym.Outer(m, w, h)
	want, ok := outer(m, w, h)
	if ok {
		told(t, "P5.2: Outer", got, err, want)
	} else {
		refused(t, "P5.2: Outer", got, err, api.ErrOver)
	}
	return ok
}

func TestOuter(t *testing.T) {
	c := &chance{6}
	small := func() int64 { return int64(c.next()%513) - 256 }
	fit, over := 0, 0
	for _, m := range matrices() {
		for range 40 {
			for _, h := range [][]int64{list(m.N, small), list(m.N, c.number), list(m.N, c.entry)} {
				for _, w := range []int64{small(), c.number(), 0, 1, -1, 1024, most, least} {
					if checkOuter(t, m, w, h) {
						fit++
					} else {
						over++
					}
				}
			}
		}
	}
	if fit < 1000 || over < 1000 {
		t.Errorf("P5.2: Outer: %d that fit, %d that don't", fit, over)
	}
}

func TestOuterEdges(t *testing.T) {
	const edge = api.MaxEntry
	for i, x := range []struct {
		m    api.Sym
		w    int64
		h    []int64
		want []int64 // nil: ErrOver
	}{
		{matrix(2, 0, 0, 0), 3, []int64{1, -1}, []int64{3, -3, 3}},
		{matrix(2, 1, 2, 3), -2, []int64{3, 5}, []int64{-17, -28, -47}},
		{matrix(1, 0), 1, []int64{1 << 15}, []int64{edge}},
		{matrix(1, 1), 1, []int64{1 << 15}, nil},
		{matrix(1, 0), -1, []int64{1 << 15}, []int64{-edge}},
		{matrix(1, -1), -1, []int64{1 << 15}, nil},
		{matrix(1, edge-4), 1, []int64{-2}, []int64{edge}},
		{matrix(1, edge-3), 1, []int64{-2}, nil},
		{matrix(1, -edge+4), -1, []int64{-2}, []int64{-edge}},
		{matrix(1, -edge+3), -1, []int64{-2}, nil},
		{matrix(1, edge), -2 * edge, []int64{1}, []int64{-edge}}, // the product alone wouldn't fit
		{matrix(1, edge), -2*edge - 1, []int64{1}, nil},
		{matrix(1, -edge), 2 * edge, []int64{-1}, []int64{edge}},
		{matrix(1, -edge), 2*edge + 1, []int64{1}, nil},
		{matrix(1, -edge), 1 << 31, []int64{1}, []int64{edge}},
		{matrix(2, edge, -edge, edge), -1 << 29, []int64{2, -2}, []int64{-edge, edge, -edge}},
		{matrix(2, 0, 0, 0), 0, []int64{most, least}, []int64{0, 0, 0}}, // h's products are far above 64 bits, w is 0
		{matrix(2, 4, 5, 6), least, []int64{0, 0}, []int64{4, 5, 6}},
		{matrix(2, 4, 5, 6), most, []int64{0, 1}, nil},
		{matrix(2, 0, 0, 0), 1, []int64{0, most}, nil},
		{matrix(2, 0, 0, 0), 1 << 32, []int64{1 << 16, 1 << 16}, nil}, // round 2 to the 64 it is 0
		{matrix(1, 0), 2, []int64{1 << 32}, nil},
		{matrix(1, 5), 1, []int64{1 << 32}, nil},
		{matrix(1, 5), least, []int64{1 << 62}, nil},
		{matrix(1, 5), least, []int64{least}, nil},
		{matrix(1, 0), most, []int64{most}, nil},
		{matrix(1, 0), 3, []int64{math.MaxInt64/3 + 1}, nil},
		{matrix(2, edge, 0, 0), 1, []int64{0, 9}, []int64{edge, 0, 81}},
		{matrix(2, 0, edge, 0), 1, []int64{1, 1}, nil}, // an entry beside the diagonal
		{matrix(2, 0, edge, 0), 1, []int64{1, -1}, []int64{1, edge - 1, 1}},
		{matrix(2, 0, -edge, 0), 1, []int64{1, -1}, nil},
		{matrix(2, 0, 0, edge), 1, []int64{0, 1}, nil}, // the last entry
		{matrix(0), most, nil, []int64{}},
		{matrix(0), least, []int64{}, []int64{}},
	} {
		got, err := sym.Outer(x.m, x.w, x.h)
		if x.want == nil {
			refused(t, "P5.2: Outer", got, err, api.ErrOver)
		} else if err != nil || !same(got, matrix(x.m.N, x.want...)) {
			t.Errorf("P5.2: Outer %d: %v, %v instead of %v", i, got, err, x.want)
		}
	}
}

// TestListsOfOtherSizes: ErrSize comes ahead of what the numbers would be.
func TestListsOfOtherSizes(t *testing.T) {
	for _, m := range matrices() {
		for n := range 12 {
			if n == m.N {
				continue
			}
			for _, v := range []int64{0, 1, most} {
				l := slices.Repeat([]int64{v}, n)
				got, err := sym.Outer(m, v, l)
				refused(t, "P5.2: Outer of a list of another size", got, err, api.ErrSize)
				wides, err := sym.Times(m, l)
				number(t, "P5.2: Times of a list of another size", err, api.ErrSize)
				if len(wides) != 0 {
					t.Errorf("P5.2: Times: %v beside an error", wides)
				}
			}
		}
	}
}

// bigOf tells a.
func bigOf(a api.Wide) *big.Int {
	v := new(big.Int)
	for i := range a {
		limb := new(big.Int).SetUint64(a[len(a)-1-i])
		v.Or(v.Lsh(v, 64), limb)
	}
	if v.Bit(64*len(a)-1) != 0 {
		v.Sub(v, new(big.Int).Lsh(big.NewInt(1), uint(64*len(a))))
	}
	return v
}

func checkTimes(t *testing.T, m api.Sym, x []int64) {
	t.Helper()
	got, err := sym.Times(m, x)
	if err != nil || len(got) != m.N {
		t.Fatalf("P5.2: Times(%v, %d): %v, %v", m, x, got, err)
	}
	for i, row := range full(m) {
		want := new(big.Int)
		for j, v := range row {
			want.Add(want, new(big.Int).Mul(big.NewInt(v), big.NewInt(x[j])))
		}
		if bigOf(got[i]).Cmp(want) != 0 {
			t.Errorf("P5.2: Times(%v, %d): number %d: %v instead of %v", m, x, i, bigOf(got[i]), want)
		}
	}
}

func TestTimes(t *testing.T) {
	c := &chance{8}
	for _, m := range matrices() {
		for range 60 {
			checkTimes(t, m, list(m.N, c.number))
			checkTimes(t, m, list(m.N, c.entry))
		}
		for _, v := range []int64{0, 1, -1, api.MaxVector, -api.MaxVector, most, least} {
			checkTimes(t, m, slices.Repeat([]int64{v}, m.N))
			for i := range m.N {
				x := make([]int64, m.N)
				x[i] = v
				checkTimes(t, m, x)
			}
		}
	}
	got, err := sym.Times(matrix(2, 2, -3, 5), []int64{7, 11})
	if err != nil || !slices.Equal(got, []api.Wide{{math.MaxUint64 - 18, math.MaxUint64, math.MaxUint64, math.MaxUint64, math.MaxUint64, math.MaxUint64, math.MaxUint64, math.MaxUint64, math.MaxUint64, math.MaxUint64, math.MaxUint64, math.MaxUint64, math.MaxUint64, math.MaxUint64, math.MaxUint64, math.MaxUint64}, {34}}) {
		t.Errorf("P5.2: Times: %v, %v instead of -19, 34", got, err)
	}
	// 2^30 times 2^62, four times, less the same: over 64 bits on the way, nought in the end.
	row := slices.Repeat([]int64{api.MaxEntry}, 36)
	got, err = sym.Times(matrix(8, row...), []int64{1 << 62, -1 << 62, 1 << 62, 1 << 62, -1 << 62, 1 << 62, -1 << 62, -1 << 62})
	if err != nil || !slices.Equal(got, make([]api.Wide, 8)) {
		t.Errorf("P5.2: Times: %v, %v instead of noughts", got, err)
	}
}

func TestGrow(t *testing.T) {
	for _, m := range matrices() {
		for k := 0; m.N+k <= api.MaxDim; k++ {
			rows := full(m)
			for i := range rows {
				rows[i] = append(rows[i], make([]int64, k)...)
			}
			for range k {
				rows = append(rows, make([]int64, m.N+k))
			}
			got, err := sym.Grow(m, k)
			told(t, "P5.2: Grow", got, err, upper(rows))
		}
		for _, k := range []int{api.MaxDim - m.N + 1, api.MaxDim - m.N + 2, 9, 100, math.MaxInt32, 1 << 32, 1<<32 + 1, 1 << 62, most - 9, most - 8, most - m.N, most - 1, most} {
			got, err := sym.Grow(m, k)
			refused(t, "P5.2: Grow by too much", got, err, api.ErrSize)
		}
		for _, k := range []int{-1, -2, -m.N - 1, -8, -9, math.MinInt32, -1 << 32, 1 - 1<<32, least, least + 1, least + 8} {
			got, err := sym.Grow(m, k)
			refused(t, "P5.2: Grow by less than 0", got, err, api.ErrRange)
		}
	}
}

func TestDrop(t *testing.T) {
	for _, m := range matrices() {
		for i := -3; i < m.N+4; i++ {
			for k := -3; k < m.N+4; k++ {
				got, err := sym.Drop(m, i, k)
				if i < 0 || i > m.N || k < 0 || i+k > m.N {
					refused(t, "P5.2: Drop of what isn't there", got, err, api.ErrRange)
					continue
				}
				rows := full(m)
				rows = slices.Delete(rows, i, i+k)
				for r := range rows {
					rows[r] = slices.Delete(rows[r], i, i+k)
				}
				told(t, "P5.2: Drop", got, err, upper(rows))
			}
		}
	}
}

func TestDropEdges(t *testing.T) {
	m := matrix(4, 0, 1, 2, 3, 11, 12, 13, 22, 23, 33)
	for _, x := range []struct {
		i, k int
		want api.Sym
	}{
		{0, 0, m}, {2, 0, m}, {4, 0, m}, // nothing
		{0, 1, matrix(3, 11, 12, 13, 22, 23, 33)}, // the first ones
		{0, 2, matrix(2, 22, 23, 33)},
		{0, 3, matrix(1, 33)},
		{1, 1, matrix(3, 0, 2, 3, 22, 23, 33)}, // in the middle
		{1, 2, matrix(2, 0, 3, 33)},
		{2, 1, matrix(3, 0, 1, 3, 11, 13, 33)},
		{3, 1, matrix(3, 0, 1, 2, 11, 12, 22)}, // the last ones
		{2, 2, matrix(2, 0, 1, 11)},
		{1, 3, matrix(1, 0)},
		{0, 4, matrix(0)}, // all
	} {
		got, err := sym.Drop(m, x.i, x.k)
		told(t, "P5.2: Drop", got, err, x.want)
	}
	for _, at := range [][2]int{
		{0, 5}, {1, 4}, {3, 2}, {4, 1}, {5, 0}, {5, -1}, {-1, 0}, {-1, 1}, {-1, 2}, {2, -1}, {4, -1}, {4, -4},
		{most, 0}, {most, 1}, {most, most}, {most, least}, {1, most}, {2, most - 1}, {4, most}, {0, most}, {0, least}, {4, least},
		{least, 0}, {least, least}, {least, most}, {1 << 32, 0}, {0, 1 << 32}, {1<<32 + 1, 1}, {1, 1<<32 + 1}, {-1 << 32, 1 << 32},
	} {
		got, err := sym.Drop(m, at[0], at[1])
		refused(t, "P5.2: Drop of what isn't there", got, err, api.ErrRange)
	}
	got, err := sym.Drop(matrix(0), 0, 0)
	told(t, "P5.2: Drop of nothing of no rows", got, err, matrix(0))
	got, err = sym.Drop(matrix(0), 0, 1)
	refused(t, "P5.2: Drop of one of no rows", got, err, api.ErrRange)
}

// diag tells what Diag promises: a matrix, or nothing (false), if an entry's amount is too great.
func diag(m api.Sym, v int64) (api.Sym, bool) {
	rows := full(m)
	for i := range rows {
		sum := new(big.Int).Add(big.NewInt(rows[i][i]), big.NewInt(v))
		if sum.CmpAbs(big.NewInt(api.MaxEntry)) > 0 {
			return api.Sym{}, false
		}
		rows[i][i] = sum.Int64()
	}
	return upper(rows), true
}

func TestDiag(t *testing.T) {
	const edge = api.MaxEntry
	c := &chance{9}
	for _, m := range matrices() {
		for _, v := range append(list(60, c.entry), 0, 1, -1, edge-1, edge, edge+1, -edge+1, -edge, -edge-1, 2*edge, 2*edge+1, -2*edge, -2*edge-1, edge-101, most, most-edge, most-edge+1, least, least+edge, least+edge-1) {
			got, err := sym.Diag(m, v)
			if want, ok := diag(m, v); ok {
				told(t, "P5.2: Diag", got, err, want)
			} else {
				refused(t, "P5.2: Diag", got, err, api.ErrOver)
			}
		}
	}
}

func TestDiagEdges(t *testing.T) {
	const edge = api.MaxEntry
	for i, x := range []struct {
		m    api.Sym
		v    int64
		want []int64 // nil: ErrOver
	}{
		{matrix(3, 1, 2, 3, 4, 5, 6), 10, []int64{11, 2, 3, 14, 5, 16}},
		{matrix(3, 1, 2, 3, 4, 5, 6), -6, []int64{-5, 2, 3, -2, 5, 0}},
		{matrix(2, 0, edge, 1), edge - 1, []int64{edge - 1, edge, edge}}, // what is beside the diagonal isn't more
		{matrix(2, 0, edge, 1), edge, nil},
		{matrix(2, 1, -edge, 0), edge, nil},
		{matrix(2, -1, 0, 0), -edge, nil},
		{matrix(2, 0, 0, -1), -edge, nil},
		{matrix(2, 0, 0, -1), 1 - edge, []int64{1 - edge, 0, -edge}},
		{matrix(2, edge, 0, edge), -2 * edge, []int64{-edge, 0, -edge}}, // what is more is above MaxEntry by itself
		{matrix(2, -edge, 0, -edge), 2 * edge, []int64{edge, 0, edge}},
		{matrix(1, edge), -2*edge - 1, nil},
		{matrix(1, -edge), 2*edge + 1, nil},
		{matrix(1, edge), most, nil},
		{matrix(1, -edge), least, nil},
		{matrix(1, edge), least, nil},
		{matrix(1, -edge), most, nil},
		{matrix(1, 1), most, nil},
		{matrix(0), most, []int64{}},
		{matrix(0), least, []int64{}},
	} {
		got, err := sym.Diag(x.m, x.v)
		if x.want == nil {
			refused(t, "P5.2: Diag", got, err, api.ErrOver)
		} else if err != nil || !same(got, matrix(x.m.N, x.want...)) {
			t.Errorf("P5.2: Diag %d: %v, %v instead of %v", i, got, err, x.want)
		}
	}
}
