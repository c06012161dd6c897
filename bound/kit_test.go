package bound_test

import (
	"math"
	"math/big"
	"math/rand/v2"
	"slices"
	"testing"

	"leadline/api"
	"leadline/bound"
	"leadline/fault"
)

const edge = api.MaxEntry

// dice throw numbers by chance, always the same ones of a seed.
type dice struct{ *rand.Rand }

func thrown(seed uint64) dice {
	return dice{rand.New(rand.NewPCG(seed, 9))}
}

// upTo tells a number of an amount of most at most.
func (d dice) upTo(most int64) int64 {
	return d.Int64N(2*most+1) - most
}

// matrix tells n rows of that upper triangle.
func matrix(n int, a ...int64) api.Sym {
	return api.Sym{N: n, A: a}
}

// laid tells n rows whose entries at tells.
func laid(n int, at func(i, j int) int64) api.Sym {
	m := api.Sym{N: n}
	for i := range n {
		for j := i; j < n; j++ {
			m.A = append(m.A, at(i, j))
		}
	}
	return m
}

// filled tells n rows of v everywhere.
func filled(n int, v int64) api.Sym {
	return laid(n, func(i, j int) int64 { return v })
}

// diagonal tells rows with l on the diagonal, and noughts beside.
func diagonal(l ...int64) api.Sym {
	return laid(len(l), func(i, j int) int64 {
		if i != j {
			return 0
		}
		return l[i]
	})
}

// same tells n rows with v on the diagonal, and noughts beside.
func same(n int, v int64) api.Sym {
	return diagonal(slices.Repeat([]int64{v}, n)...)
}

// matrix tells n rows of amounts of most at most, the edges among them.
func (d dice) matrix(n int, most int64) api.Sym {
	return laid(n, func(i, j int) int64 {
		kinds := []int64{most, -most, 0, d.upTo(most), d.upTo(most), d.upTo(most)}
		return kinds[d.IntN(len(kinds))]
	})
}

// byOne tells n rows all of whose minors are 1: a triangle with 1 on the diagonal, and amounts of most at most behind it, times itself.
func (d dice) byOne(n int, most int64) api.Sym {
	rows := make([][]int64, n)
	for i := range rows {
		rows[i] = append(make([]int64, i), 1)
		for len(rows[i]) < n {
			rows[i] = append(rows[i], d.upTo(most))
		}
	}
	return laid(n, func(i, j int) int64 {
		var sum int64
		for _, row := range rows {
			sum += row[i] * row[j]
		}
		return sum
	})
}

// plus tells a and f times b.
func plus(a api.Sym, f int64, b api.Sym) api.Sym {
	l := slices.Clone(a.A)
	for i := range l {
		l[i] += f * b.A[i]
	}
	return api.Sym{N: a.N, A: l}
}

// last tells m with v more at its last entry.
func last(m api.Sym, v int64) api.Sym {
	l := slices.Clone(m.A)
	l[len(l)-1] += v
	return api.Sym{N: m.N, A: l}
}

// outer tells h times h.
func outer(h []int64) api.Sym {
	return laid(len(h), func(i, j int) int64 { return h[i] * h[j] })
}

// entry tells m's entry, either way round.
func entry(m api.Sym, i, j int) *big.Int {
	if i > j {
		i, j = j, i
	}
	for row := range i {
		j += m.N - row - 1
	}
	return big.NewInt(m.A[j])
}

// sure tells whether all minors of n rows are above 0, by fractions: each minor is the one ahead of it, times what its row begins with when those ahead are taken off it.
func sure(n int, at func(i, j int) *big.Int) bool {
	rows := make([][]*big.Rat, n)
	for i := range rows {
		for j := range n {
			rows[i] = append(rows[i], new(big.Rat).SetInt(at(i, j)))
		}
	}
	for k := range rows {
		if rows[k][k].Sign() <= 0 {
			return false
		}
		for i := k + 1; i < n; i++ {
			share := new(big.Rat).Quo(rows[i][k], rows[k][k])
			for j := k; j < n; j++ {
				rows[i][j].Sub(rows[i][j], new(big.Rat).Mul(share, rows[k][j]))
			}
		}
	}
	return true
}

// one tells k on the diagonal, 0 beside.
func one(k int64, i, j int) *big.Int {
	if i != j {
		return new(big.Int)
	}
	return big.NewInt(k)
}

// leastSure tells what P9.1 promises of Least of a right m.
func leastSure(m api.Sym, k int64) bool {
	return sure(m.N, func(i, j int) *big.Int { return new(big.Int).Sub(entry(m, i, j), one(k, i, j)) })
}

// mostSure tells what P9.1 promises of Most of a right m.
func mostSure(m api.Sym, k int64) bool {
	return sure(m.N, func(i, j int) *big.Int { return new(big.Int).Sub(one(k, i, j), entry(m, i, j)) })
}

// belowSure tells what P9.1 promises of Below of right matrices of one size.
func belowSure(a, b api.Sym) bool {
	return sure(a.N, func(i, j int) *big.Int {
		rest := new(big.Int).Sub(entry(b, i, j), entry(a, i, j))
		return rest.Add(rest, one(1, i, j))
	})
}

// check holds Least and Most of a right m against what is promised.
func check(t *testing.T, m api.Sym, k int64) {
	t.Helper()
	leastIs(t, m, k, leastSure(m, k))
	mostIs(t, m, k, mostSure(m, k))
}

// checkBelow holds Below of right matrices of one size, both ways, against what is promised.
func checkBelow(t *testing.T, a, b api.Sym) {
	t.Helper()
	belowIs(t, a, b, belowSure(a, b))
	belowIs(t, b, a, belowSure(b, a))
}

func leastIs(t *testing.T, m api.Sym, k int64, want bool) {
	t.Helper()
	if bound.Least(m, k) != want {
		t.Errorf("P9.1, P9.2: Least(%v, %d): %v", m, k, !want)
	}
}

func mostIs(t *testing.T, m api.Sym, k int64, want bool) {
	t.Helper()
	if bound.Most(m, k) != want {
		t.Errorf("P9.1, P9.2: Most(%v, %d): %v", m, k, !want)
	}
}

func belowIs(t *testing.T, a, b api.Sym, want bool) {
	t.Helper()
	if bound.Below(a, b) != want {
		t.Errorf("P9.1, P9.2: Below(%v, %v): %v", a, b, !want)
	}
}

// between holds Between against a number: OK of no error, else that of a fault of package bound.
func between(t *testing.T, m api.Sym, least, most int64, want api.Errno) {
	t.Helper()
	err := bound.Between(m, least, most)
	if want == api.OK {
		if err != nil {
			t.Errorf("P9.1, P9.2: Between(%v, %d, %d): %v", m, least, most, err)
		}
		return
	}
	ops := fault.Ops(err)
	if _, ok := err.(*fault.Fault); !ok || fault.Code(err) != want || len(ops) == 0 || ops[0] != "bound" {
		t.Errorf("P9.1, P9.2: Between(%v, %d, %d): %v (a %T of %q) instead of %d", m, least, most, err, err, ops, want)
	}
}

// bounds tells numbers of all lengths, the edges among them.
func bounds() []int64 {
	l := []int64{math.MinInt64, math.MinInt64 + 1, math.MaxInt64, math.MaxInt64 - 1, 0}
	for by := range 63 {
		for _, off := range []int64{-1, 0, 1} {
			l = append(l, 1<<by+off, -(1<<by + off))
		}
	}
	return l
}

// wrongs tells matrices that aren't right, most of them as good as definite ones.
func wrongs() []api.Sym {
	l := []api.Sym{
		matrix(0, 0), matrix(0, 1), matrix(1), matrix(1, 1, 1), matrix(2, 5, 0), matrix(2, 5), matrix(2), matrix(2, 5, 0, 5, 0),
		matrix(8, same(8, 5).A[:35]...), matrix(8, append(same(8, 5).A, 0)...), matrix(8, make([]int64, 64)...),
		same(9, 5), matrix(9), matrix(9, same(8, 5).A...), // one row more than MaxDim
		matrix(-1), matrix(-1, 5), matrix(-2, 5), matrix(-9, same(8, 5).A...), // N (N + 1) / 2 entries, as if there were such rows
		matrix(math.MaxInt64), matrix(math.MinInt64), matrix(1<<32 - 1), matrix(-1 << 32), matrix(1 << 62), matrix(math.MaxInt32),
	}
	for _, v := range []int64{edge + 1, -edge - 1, 1 << 32, math.MaxInt64, math.MinInt64} {
		l = append(l, matrix(1, v), matrix(2, v, 0, edge), matrix(2, edge, v, edge), matrix(2, edge, 0, v), last(same(8, 1), v-1))
	}
	return l
}
