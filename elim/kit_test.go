package elim_test

import (
	"math/big"
	"testing"

	"leadline/api"
	"leadline/elim"
	"leadline/fault"
	"leadline/wide"
)

const edge = api.MaxEntry

// chance tells numbers that come by chance, always the same ones.
type chance struct{ seed uint64 }

func (c *chance) next() uint64 {
	c.seed = c.seed*6364136223846793005 + 1442695040888963407
	return c.seed>>33 ^ c.seed<<31
}

// upTo tells a number of an amount of most at most.
func (c *chance) upTo(most int64) int64 {
	return int64(c.next()%uint64(2*most+1)) - most
}

// triangle tells how many entries n rows have.
func triangle(n int) int {
	return n * (n + 1) / 2
}

// matrix tells the matrix of n rows and these entries.
func matrix(n int, a ...int64) api.Sym {
	return api.Sym{N: n, A: a}
}

// filled tells n rows of entries that next tells.
func filled(n int, next func() int64) api.Sym {
	m := api.Sym{N: n}
	for range triangle(n) {
		m.A = append(m.A, next())
	}
	return m
}

// laid tells n rows whose entries at tells, row by row.
func laid(n int, at func(i, j int) int64) api.Sym {
	m := api.Sym{N: n}
	for i := range n {
		for j := i; j < n; j++ {
			m.A = append(m.A, at(i, j))
		}
	}
	return m
}

// diagonal tells the matrix of these entries on its diagonal, and noughts.
func diagonal(l ...int64) api.Sym {
	return laid(len(l), func(i, j int) int64 {
		if i != j {
			return 0
		}
		return l[i]
	})
}

// more tells m with v more at its last entry.
func more(m api.Sym, v int64) api.Sym {
	m.A = append([]int64(nil), m.A...)
	m.A[len(m.A)-1] += v
	return m
}

// full tells all entries of m, row by row.
func full(m api.Sym) [][]*big.Int {
	rows := make([][]*big.Int, m.N)
	at := 0
	for i := range m.N {
		for j := i; j < m.N; j++ {
			v := big.NewInt(m.A[at])
			at++
			rows[j] = append(rows[j], v)
			if i != j {
				rows[i] = append(rows[i], v)
			}
		}
	}
	return rows
}

// determinant tells that of the first n rows and columns, by what it is: the sum, with signs, of all products of one number a row and a column. (By sets of columns: that of the first rows and some columns is a sum over which of these the last row takes.)
func determinant(rows [][]*big.Int, n int) *big.Int {
	of := []*big.Int{big.NewInt(1)}
	for set := 1; set < 1<<n; set++ {
		row := -1
		for c := range n {
			row += set >> c & 1
		}
		sum, above := new(big.Int), row
		for c := range n {
			if set>>c&1 == 0 {
				continue
			}
			product := new(big.Int).Mul(rows[row][c], of[set&^(1<<c)])
			if above%2 != 0 {
				product.Neg(product)
			}
			sum.Add(sum, product)
			above--
		}
		of = append(of, sum)
	}
	return of[1<<n-1]
}

// value tells a Wide as a number of math/big.
func value(a api.Wide) *big.Int {
	v := new(big.Int)
	for i := api.Limbs - 1; i >= 0; i-- {
		v.Add(v.Lsh(v, 64), new(big.Int).SetUint64(a[i]))
	}
	if wide.Sign(a) < 0 {
		v.Sub(v, new(big.Int).Lsh(big.NewInt(1), 64*api.Limbs))
	}
	return v
}

// values tells these as numbers of math/big.
func values(l []api.Wide) []*big.Int {
	var numbers []*big.Int
	for _, a := range l {
		numbers = append(numbers, value(a))
	}
	return numbers
}

// alike tells whether both lists have the same numbers.
func alike(a, b []*big.Int) bool {
	if len(a) != len(b) {
		return false
	}
	for i := range a {
		if a[i].Cmp(b[i]) != 0 {
			return false
		}
	}
	return true
}

// promised tells what P6.1 promises of a right m: its minors up to the first that isn't above 0, its determinant, whether it is definite.
func promised(m api.Sym) ([]*big.Int, *big.Int, bool) {
	rows := full(m)
	var minors []*big.Int
	definite := true
	for n := 1; n <= m.N && definite; n++ {
		minors = append(minors, determinant(rows, n))
		definite = minors[n-1].Sign() > 0
	}
	return minors, determinant(rows, m.N), definite
}

// check holds all calls of a right m against what is promised; it tells how many minors there were, and whether m is definite.
func check(t *testing.T, m api.Sym) (int, bool) {
	t.Helper()
	minors, det, definite := promised(m)
	l, err := elim.Minors(m)
	if err != nil || !alike(values(l), minors) {
		t.Errorf("P6.1: Minors(%v): %v, %v instead of %v", m, values(l), err, minors)
	}
	got, err := elim.Det(m)
	if err != nil || value(got).Cmp(det) != 0 {
		t.Errorf("P6.1: Det(%v): %v, %v instead of %v", m, value(got), err, det)
	}
	if elim.Definite(m) != definite {
		t.Errorf("P6.1, P6.2: Definite(%v): %v", m, !definite)
	}
	return len(minors), definite
}

// minorsAre holds Minors against numbers that are written down.
func minorsAre(t *testing.T, m api.Sym, want ...int64) {
	t.Helper()
	l, err := elim.Minors(m)
	if err != nil || len(l) != len(want) {
		t.Errorf("P6.1: Minors(%v): %v, %v instead of %v", m, values(l), err, want)
		return
	}
	for i, v := range want {
		if l[i] != wide.Of(v) {
			t.Errorf("P6.1: Minors(%v): %v instead of %v", m, values(l), want)
		}
	}
}

// detIs holds Det against a number that is written down.
func detIs(t *testing.T, m api.Sym, want int64) {
	t.Helper()
	got, err := elim.Det(m)
	if err != nil || got != wide.Of(want) {
		t.Errorf("P6.1: Det(%v): %v, %v instead of %d", m, value(got), err, want)
	}
}

// definiteIs holds Definite against what is written down.
func definiteIs(t *testing.T, m api.Sym, want bool) {
	t.Helper()
	if elim.Definite(m) != want {
		t.Errorf("P6.1, P6.2: Definite(%v): %v", m, !want)
	}
}

// refused holds all calls of an m that isn't right against ErrSize of package elim, a Fault, with nothing beside it.
func refused(t *testing.T, m api.Sym) {
	t.Helper()
	l, err := elim.Minors(m)
	det, other := elim.Det(m)
	for _, e := range []error{err, other} {
		ops := fault.Ops(e)
		if _, ok := e.(*fault.Fault); !ok || fault.Code(e) != api.ErrSize || len(ops) == 0 || ops[0] != "elim" {
			t.Errorf("P6.1: of %v: %v (a %T of %q) instead of ErrSize", m, e, e, ops)
		}
	}
	if len(l) != 0 || det != (api.Wide{}) {
		t.Errorf("P6.1: of %v: %v, %v beside an error", m, l, det)
	}
	definiteIs(t, m, false)
}
