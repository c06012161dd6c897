package solve_test

import (
	"math/big"
	"slices"
	"testing"

	"leadline/api"
	"leadline/fault"
	"leadline/solve"
	"leadline/wide"
)

const (
	edge = api.MaxEntry
	top  = api.MaxVector
)

// chance tells numbers that come by chance, always the same ones.
type chance struct{ seed uint64 }

func (c *chance) next() uint64 {
	c.seed = c.seed*6364136223846793005 + 1442695040888963407
	return c.seed>>33 ^ c.seed<<31
}

// upTo tells a number of an amount of most at most.
func (c *chance) upTo(most int64) int64 {
	return int64(c.next()%uint64(2*most+1)) - most
}

// vector tells n numbers of an amount of most at most, the edges among them.
func (c *chance) vector(n int, most int64) []int64 {
	l := make([]int64, n)
	for i := range l {
		l[i] = c.upTo(most)
		if which := c.next() % 12; which < 3 {
			l[i] = []int64{most, -most, 0}[which]
		}
	}
	return l
}

// matrix tells the matrix of n rows and these entries.
func matrix(n int, a ...int64) api.Sym {
	return api.Sym{N: n, A: a}
}

// laid tells n rows whose entries at tells, row by row.
func laid(n int, at func(i, j int) int64) api.Sym {
	m := api.Sym{N: n}
	for i := range n {
		for j := i; j < n; j++ {
			m.A = append(m.A, at(i, j))
		}
	}
	return m
}

// diagonal tells n rows of v on the diagonal, and beside everywhere else.
func diagonal(n int, v, beside int64) api.Sym {
	return laid(n, func(i, j int) int64 {
		if i != j {
			return beside
		}
		return v
	})
}

// heavy tells a matrix of entries that come by chance, with most, which is above 0, on the diagonal: that is more than the amounts beside it in a row together, so the matrix is definite.
func (c *chance) heavy(n int, most int64) api.Sym {
	return laid(n, func(i, j int) int64 {
		if i != j {
			return c.upTo(most / int64(n))
		}
		return most
	})
}

// unit tells a matrix of n rows all of whose minors are 1: rows times themselves that have 1 on the diagonal, numbers by chance behind it, noughts ahead of it.
func (c *chance) unit(n int, most int64) api.Sym {
	rows := make([][]int64, n)
	for i := range rows {
		rows[i] = make([]int64, n)
		rows[i][i] = 1
		for j := i + 1; j < n; j++ {
			rows[i][j] = c.upTo(most)
		}
	}
	return laid(n, func(i, j int) int64 {
		var sum int64
		for r := range n {
			sum += rows[r][i] * rows[r][j]
		}
		return sum
	})
}

// more tells m with v more at its last entry.
func more(m api.Sym, v int64) api.Sym {
	m.A = slices.Clone(m.A)
	m.A[len(m.A)-1] += v
	return m
}

// full tells all entries of m, row by row.
func full(m api.Sym) [][]*big.Int {
	rows := make([][]*big.Int, m.N)
	for i := range rows {
		rows[i] = make([]*big.Int, m.N)
	}
	at := 0
	for i := range m.N {
		for j := i; j < m.N; j++ {
			rows[i][j] = big.NewInt(m.A[at])
			rows[j][i] = rows[i][j]
			at++
		}
	}
	return rows
}

// replaced tells the rows with column i replaced by v.
func replaced(rows [][]*big.Int, i int, v []int64) [][]*big.Int {
	var other [][]*big.Int
	for r, row := range rows {
		row = slices.Clone(row)
		row[i] = big.NewInt(v[r])
		other = append(other, row)
	}
	return other
}

// determinant tells that of the first n rows and columns, by what it is: the sum, with signs, of all products of one number a row and a column. (By sets of columns: that of the first rows and some columns is a sum over which of these the last row takes.)
func determinant(rows [][]*big.Int, n int) *big.Int {
	of := []*big.Int{big.NewInt(1)}
	for set := 1; set < 1<<n; set++ {
		row := -1
		for c := range n {
			row += set >> c & 1
		}
		sum, above := new(big.Int), row
		for c := range n {
			if set>>c&1 == 0 {
				continue
			}
			product := new(big.Int).Mul(rows[row][c], of[set&^(1<<c)])
			if above%2 != 0 {
				product.Neg(product)
			}
			sum.Add(sum, product)
			above--
		}
		of = append(of, sum)
	}
	return of[1<<n-1]
}

// definite tells whether all minors of a right m are above 0.
func definite(m api.Sym) bool {
	rows := full(m)
	for n := 1; n <= m.N; n++ {
		if determinant(rows, n).Sign() <= 0 {
			return false
		}
	}
	return true
}

// value tells a Wide as a number of math/big.
func value(a api.Wide) *big.Int {
	v := new(big.Int)
	for i := api.Limbs - 1; i >= 0; i-- {
		v.Add(v.Lsh(v, 64), new(big.Int).SetUint64(a[i]))
	}
	if wide.Sign(a) < 0 {
		v.Sub(v, new(big.Int).Lsh(big.NewInt(1), 64*api.Limbs))
	}
	return v
}

// ratio is a fraction of numbers of math/big.
type ratio struct{ num, den *big.Int }

// String tells both: as a field of a test's words the numbers would be pointers.
func (r ratio) String() string { return r.num.String() + "/" + r.den.String() }

// ratios tells fractions as such.
func ratios(l ...api.Frac) []ratio {
	var all []ratio
	for _, f := range l {
		all = append(all, ratio{value(f.Num), value(f.Den)})
	}
	return all
}

// ratiosOf tells these numbers over den.
func ratiosOf(den int64, nums ...int64) []ratio {
	var all []ratio
	for _, num := range nums {
		all = append(all, ratio{big.NewInt(num), big.NewInt(den)})
	}
	return all
}

// alike tells whether both lists have the same fractions, each with the same two numbers.
func alike(a, b []ratio) bool {
	return slices.EqualFunc(a, b, func(x, y ratio) bool {
		return x.num.Cmp(y.num) == 0 && x.den.Cmp(y.den) == 0
	})
}

// cramer tells what P7.1 promises of Exact: m's determinants with each column replaced by v, over that of m.
func cramer(m api.Sym, v []int64) []ratio {
	rows := full(m)
	den := determinant(rows, m.N)
	var l []ratio
	for i := range m.N {
		l = append(l, ratio{determinant(replaced(rows, i, v), m.N), den})
	}
	return l
}

// rounded tells the whole number nearest to f, of two the greater one: half more, rounded down.
func rounded(f ratio) *big.Int {
	sum := new(big.Int).Add(new(big.Int).Lsh(f.num, 1), f.den)
	return sum.Div(sum, new(big.Int).Lsh(f.den, 1)) // rounds down, as 2 den is above 0
}

// bigs tells these as numbers of math/big.
func bigs(l []int64) []*big.Int {
	var all []*big.Int
	for _, v := range l {
		all = append(all, big.NewInt(v))
	}
	return all
}

// dot tells both lists' products together.
func dot(a, b []*big.Int) *big.Int {
	sum := new(big.Int)
	for i := range a {
		sum.Add(sum, new(big.Int).Mul(a[i], b[i]))
	}
	return sum
}

// check holds Exact, Near, Quad of a definite m and v against what is promised; it tells whether Near is too great.
func check(t *testing.T, m api.Sym, v []int64) bool {
	t.Helper()
	want := cramer(m, v)
	got, err := solve.Exact(m, v)
	if err != nil || !alike(ratios(got...), want) {
		t.Errorf("P7.1: Exact(%v, %d): %v, %v instead of %v", m, v, ratios(got...), err, want)
	}
	checkQuad(t, m, v, want)
	var near []*big.Int
	tooGreat := false
	for _, f := range want {
		near = append(near, rounded(f))
		tooGreat = tooGreat || near[len(near)-1].CmpAbs(big.NewInt(top)) > 0
	}
	l, err := solve.Near(m, v)
	if tooGreat {
		fails(t, "P7.1: Near", err, api.ErrOver)
		if len(l) != 0 {
			t.Errorf("P7.1: Near(%v, %d): %d beside an error", m, v, l)
		}
	} else if err != nil || !slices.EqualFunc(bigs(l), near, func(a, b *big.Int) bool { return a.Cmp(b) == 0 }) {
		t.Errorf("P7.1: Near(%v, %d): %d, %v instead of %v", m, v, l, err, near)
	}
	return tooGreat
}

// checkQuad holds Quad of a definite m and h against the fractions that solve it.
func checkQuad(t *testing.T, m api.Sym, h []int64, x []ratio) {
	t.Helper()
	want := ratio{new(big.Int), determinant(full(m), m.N)}
	for i, f := range x {
		want.num.Add(want.num, new(big.Int).Mul(f.num, big.NewInt(h[i])))
	}
	got, err := solve.Quad(m, h)
	if err != nil || !alike(ratios(got), []ratio{want}) {
		t.Errorf("P7.1: Quad(%v, %d): %v, %v instead of %v", m, h, ratios(got), err, want)
	}
}

// exactIs holds Exact against numbers that are written down, over den.
func exactIs(t *testing.T, m api.Sym, v []int64, den int64, nums ...int64) {
	t.Helper()
	got, err := solve.Exact(m, v)
	if err != nil || !alike(ratios(got...), ratiosOf(den, nums...)) {
		t.Errorf("P7.1: Exact(%v, %d): %v, %v instead of %d over %d", m, v, ratios(got...), err, nums, den)
	}
}

// nearIs holds Near against numbers that are written down.
func nearIs(t *testing.T, m api.Sym, v []int64, want ...int64) {
	t.Helper()
	got, err := solve.Near(m, v)
	if err != nil || !slices.Equal(got, want) {
		t.Errorf("P7.1: Near(%v, %d): %d, %v instead of %d", m, v, got, err, want)
	}
}

// quadIs holds Quad against a fraction that is written down.
func quadIs(t *testing.T, m api.Sym, h []int64, num, den int64) {
	t.Helper()
	got, err := solve.Quad(m, h)
	if err != nil || !alike(ratios(got), ratiosOf(den, num)) {
		t.Errorf("P7.1: Quad(%v, %d): %v, %v instead of %d over %d", m, h, ratios(got), err, num, den)
	}
}

// columnIs holds Column against numbers that are written down, over den.
func columnIs(t *testing.T, m api.Sym, i int, den int64, nums ...int64) {
	t.Helper()
	got, err := solve.Column(m, i)
	if err != nil || !alike(ratios(got...), ratiosOf(den, nums...)) {
		t.Errorf("P7.1: Column(%v, %d): %v, %v instead of %d over %d", m, i, ratios(got...), err, nums, den)
	}
}

// residualIs holds Residual against a number that is written down.
func residualIs(t *testing.T, m api.Sym, x, v []int64, want int64) {
	t.Helper()
	got, err := solve.Residual(m, x, v)
	if err != nil || got != want {
		t.Errorf("P7.2: Residual(%v, %d, %d): %d, %v instead of %d", m, x, v, got, err, want)
	}
}

// fails holds an error against its number, and that package solve told it, as a Fault.
func fails(t *testing.T, name string, err error, want api.Errno) {
	t.Helper()
	ops := fault.Ops(err)
	if err == nil || fault.Code(err) != want || !fault.Is(err, want) || len(ops) == 0 || ops[0] != "solve" {
		t.Errorf("%s: %v, of %q, instead of %v", name, err, ops, want)
	}
	if _, ok := err.(*fault.Fault); !ok {
		t.Errorf("%s: the error is a %T", name, err)
	}
}

// listFails holds the calls that solve m with v against that error, with nothing beside it.
func listFails(t *testing.T, m api.Sym, v []int64, want api.Errno) {
	t.Helper()
	exact, err := solve.Exact(m, v)
	fails(t, "P7.1: Exact", err, want)
	near, err := solve.Near(m, v)
	fails(t, "P7.1: Near", err, want)
	quad, err := solve.Quad(m, v)
	fails(t, "P7.1: Quad", err, want)
	if len(exact) != 0 || len(near) != 0 || quad != (api.Frac{}) {
		t.Errorf("P7.1: of %v, %d: %v, %d, %v beside an error", m, v, exact, near, quad)
	}
}

// columnFails holds Column against that error, with nothing beside it.
func columnFails(t *testing.T, m api.Sym, i int, want api.Errno) {
	t.Helper()
	got, err := solve.Column(m, i)
	fails(t, "P7.1: Column", err, want)
	if len(got) != 0 {
		t.Errorf("P7.1: Column(%v, %d): %v beside an error", m, i, got)
	}
}

// residualFails holds Residual against that error, with nothing beside it.
func residualFails(t *testing.T, m api.Sym, x, v []int64, want api.Errno) {
	t.Helper()
	got, err := solve.Residual(m, x, v)
	fails(t, "P7.2: Residual", err, want)
	if got != 0 {
		t.Errorf("P7.2: Residual(%v, %d, %d): %d beside an error", m, x, v, got)
	}
}
