package sym

import (
	"leadline/api"
	"leadline/fault"
	"leadline/fx"
	"leadline/wide"
)

// wrong tells the fault of that number.
func wrong(n api.Errno) error {
	return fault.Wrap("sym", n)
}

// entries tells how many entries the upper triangle of n rows has; n is 0 to MaxDim.
func entries(n int) int {
	return n * (n + 1) / 2
}

// index tells where in A the entry of row i and column j is, either way round; both are 0 to n - 1.
func index(n, i, j int) int {
	if i > j {
		i, j = j, i
	}
	return entries(n) - entries(n-i) + j - i // the rows from the i-th on are a triangle by themselves
}

// piece tells row r's entries from column from to the one ahead of column to; from is r at least.
func piece(m api.Sym, r, from, to int) []int64 {
	begin := index(m.N, r, r)
	return m.A[begin+from-r : begin+to-r]
}

// copied tells the same numbers in new memory.
func copied(l []int64) []int64 {
	return append([]int64(nil), l...)
}

// hasRow tells whether m has a row i.
func hasRow(m api.Sym, i int) bool {
	return i >= 0 && i < m.N
}

// fits tells whether v may be an entry.
func fits(v int64) bool {
	amount, ok := fx.Amount(v)
	return ok && amount <= api.MaxEntry
}

// product tells these numbers times one another; they are three at most, so a Wide has it.
func product(l ...int64) api.Wide {
	all := wide.Of(1)
	for _, v := range l {
		all, _ = wide.Mul(all, wide.Of(v))
	}
	return all
}

// plus tells a and b together; both are sums of so few products that a Wide has it.
func plus(a, b api.Wide) api.Wide {
	sum, _ := wide.Add(a, b)
	return sum
}
