package gate_test

import (
	"errors"
	"math"
	"math/big"
	"math/rand/v2"
	"slices"
	"testing"

	"leadline/api"
	"leadline/fault"
	"leadline/gate"
)

// By the chapters: the greatest amount of off, the greatest weight and gamma; the greatest amount of an entry and of a vector's number.
const (
	farthest = 4194304
	heaviest = 4096
	widest   = 4096
	edge     = 1 << 30
	top      = 1 << 56
)

// asked: what Pass is told.
type asked struct {
	m                  api.Sym
	h                  []int64
	off, weight, gamma int64
}

// matrix tells the matrix of n rows and these entries.
func matrix(n int, a ...int64) api.Sym {
	return api.Sym{N: n, A: a}
}

// laid tells n rows whose entries at tells, row by row.
func laid(n int, at func(i, j int) int64) api.Sym {
	m := api.Sym{N: n}
	for i := range n {
		for j := i; j < n; j++ {
			m.A = append(m.A, at(i, j))
		}
	}
	return m
}

// diagonal tells n rows of v on the diagonal, and beside everywhere else.
func diagonal(n int, v, beside int64) api.Sym {
	return laid(n, func(i, j int) int64 {
		if i != j {
			return beside
		}
		return v
	})
}

// with tells m with v at (i, j), i not behind j.
func with(m api.Sym, i, j int, v int64) api.Sym {
	m.A = slices.Clone(m.A)
	m.A[i*m.N-i*(i-1)/2+j-i] = v
	return m
}

// thrown tells a source of numbers by chance, always the same ones of a seed.
func thrown(seed uint64) *rand.Rand {
	return rand.New(rand.NewPCG(seed, 17))
}

// upTo tells a number of an amount at most that by chance.
func upTo(d *rand.Rand, most int64) int64 {
	return d.Int64N(2*most+1) - most
}

// vector tells n numbers of an amount at most that by chance, the ends and nought among them.
func vector(d *rand.Rand, n int, most int64) []int64 {
	l := make([]int64, n)
	for i := range l {
		l[i] = upTo(d, most)
		if which := d.IntN(12); which < 3 {
			l[i] = []int64{most, -most, 0}[which]
		}
	}
	return l
}

// heavy tells a definite matrix: most on the diagonal, which is more than the amounts beside it in a row together.
func heavy(d *rand.Rand, n int, most int64) api.Sym {
	return laid(n, func(i, j int) int64 {
		if i != j {
			return upTo(d, most/int64(n))
		}
		return most
	})
}

// narrow tells a definite matrix whose determinant is 1: rows times themselves that have 1 on the diagonal, numbers by chance behind it, noughts ahead of it.
func narrow(d *rand.Rand, n int, most int64) api.Sym {
	rows := make([][]int64, n)
	for i := range rows {
		rows[i] = make([]int64, n)
		rows[i][i] = 1
		for j := i + 1; j < n; j++ {
			rows[i][j] = upTo(d, most)
		}
	}
	return laid(n, func(i, j int) int64 {
		var sum int64
		for r := range n {
			sum += rows[r][i] * rows[r][j]
		}
		return sum
	})
}

// rats tells m's rows with h as one more column, as fractions.
func rats(m api.Sym, h []int64) [][]*big.Rat {
	rows := make([][]*big.Rat, m.N)
	for i := range rows {
		rows[i] = make([]*big.Rat, m.N+1)
		rows[i][m.N] = new(big.Rat).SetInt64(h[i])
	}
	k := 0
	for i := range m.N {
		for j := i; j < m.N; j++ {
			rows[i][j], rows[j][i] = new(big.Rat).SetInt64(m.A[k]), new(big.Rat).SetInt64(m.A[k])
			k++
		}
	}
	return rows
}

// spread tells h times the x with m x = h, as a fraction: the sum of what each row, less those above it, has in its last column, squared, over its first number. False, if such a number isn't above 0: m isn't definite.
func spread(m api.Sym, h []int64) (*big.Rat, bool) {
	rows, sum := rats(m, h), new(big.Rat)
	for i, row := range rows {
		if row[i].Sign() <= 0 {
			return nil, false
		}
		square := new(big.Rat).Mul(row[m.N], row[m.N])
		sum.Add(sum, square.Quo(square, row[i]))
		for _, other := range rows[i+1:] {
			by := new(big.Rat).Quo(other[i], row[i])
			for j := range other {
				other[j] = new(big.Rat).Sub(other[j], new(big.Rat).Mul(by, row[j]))
			}
		}
	}
	return sum, true
}

// room tells what off's square may be at most: gamma times the spread and one over weight.
func room(q *big.Rat, weight, gamma int64) *big.Rat {
	sum := new(big.Rat).Add(q, big.NewRat(1, weight))
	return sum.Mul(sum, new(big.Rat).SetInt64(gamma))
}

// last tells the greatest off whose square is at most that, and whether it is just that.
func last(most *big.Rat) (int64, bool) {
	off := new(big.Int).Quo(most.Num(), most.Denom())
	off.Sqrt(off)
	just := new(big.Rat).SetInt(new(big.Int).Mul(off, off)).Cmp(most) == 0
	if !off.IsInt64() {
		return math.MaxInt64, false
	}
	return off.Int64(), just
}

// outside tells numbers that aren't from least to most: those beside them, those whose lower bits look like one of them, the ends of the type.
func outside(least, most int64) []int64 {
	l := []int64{least - 1, least - 2, most + 1, most + 2, 2*most + 1, math.MinInt64, math.MinInt64 + 1, math.MinInt64 + most, math.MaxInt64 - most, math.MaxInt64 - 1, math.MaxInt64}
	for _, bit := range []int{24, 31, 32, 33, 48, 62} {
		l = append(l, 1<<bit, -1<<bit, 1<<bit+1, 1<<bit+most, -1<<bit-1, -1<<bit+most)
	}
	return l
}

// pass tells what Pass tells, and that what was handed in is as it was.
func pass(t *testing.T, a asked) error {
	t.Helper()
	entries, h := slices.Clone(a.m.A), slices.Clone(a.h)
	n := a.m.N
	err := gate.Pass(a.m, a.h, a.off, a.weight, a.gamma)
	if a.m.N != n || !slices.Equal(a.m.A, entries) || !slices.Equal(a.h, h) {
		t.Errorf("P17.1: Pass(%v): what was handed in is changed", a)
	}
	return err
}

// passes holds Pass against nil.
func passes(t *testing.T, a asked) {
	t.Helper()
	if err := pass(t, a); err != nil {
		t.Errorf("P17.1: Pass(%v): %v", a, err)
	}
}

// fails holds Pass against that error: a fault of this package in which the number is found, behind these ops.
func fails(t *testing.T, a asked, want api.Errno, behind ...string) {
	t.Helper()
	isWrong(t, a, pass(t, a), want, behind...)
}

// isWrong holds an error against what is promised: a fault whose first op is gate, then these, and in which that number is found.
func isWrong(t *testing.T, a asked, err error, want api.Errno, behind ...string) {
	t.Helper()
	if _, ok := err.(*fault.Fault); !ok {
		t.Errorf("P17.1: Pass(%v): %v, %T is no fault", a, err, err)
		return
	}
	var n api.Errno
	if !errors.As(err, &n) || n != want || !errors.Is(err, want) {
		t.Errorf("P17.1: Pass(%v): %v instead of %v", a, err, want)
	}
	if fault.Code(err) != want || !fault.Is(err, want) {
		t.Errorf("P17.1: Pass(%v): number %d", a, fault.Code(err))
	}
	ops := append([]string{"gate"}, behind...)
	if got := fault.Ops(err); len(got) < len(ops) || !slices.Equal(got[:len(ops)], ops) {
		t.Errorf("P17.1: Pass(%v): ops %q instead of %q", a, got, ops)
	}
}

// gated holds Pass against ErrGate.
func gated(t *testing.T, a asked) {
	t.Helper()
	fails(t, a, 32)
}

// asksSolve holds Pass against an error of solve.Quad's.
func asksSolve(t *testing.T, a asked, want api.Errno) {
	t.Helper()
	fails(t, a, want, "solve")
}

// holds holds Pass of measures that may be and of a definite matrix with a list that it may have against the chapter's words, reckoned in fractions: with off, and with what is just at the gate, one less, one more, either way, where these may be told. It tells whether a number just at the gate was found.
func holds(t *testing.T, a asked) bool {
	t.Helper()
	q, ok := spread(a.m, a.h)
	if !ok {
		t.Fatalf("P17.1: %v isn't definite", a.m)
	}
	most := room(q, a.weight, a.gamma)
	off, just := last(most)
	tried := []int64{a.off, -a.off}
	if off <= farthest {
		tried = append(tried, off, -off, off-1, 1-off, off+1, -off-1)
	}
	for _, v := range tried {
		if a.off = v; max(v, -v) > farthest {
			continue
		}
		if square := new(big.Rat).SetInt64(v * v); square.Cmp(most) > 0 {
			gated(t, a)
			continue
		}
		passes(t, a)
	}
	return just && off <= farthest
}
