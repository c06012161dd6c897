package solve_test

import (
	"math/big"
	"slices"
	"testing"

	"leadline/api"
	"leadline/solve"
)

// greatestRow tells the greatest sum of the amounts of a row.
func greatestRow(m api.Sym) *big.Int {
	greatest := new(big.Int)
	for _, row := range full(m) {
		sum := new(big.Int)
		for _, v := range row {
			sum.Add(sum, new(big.Int).Abs(v))
		}
		if sum.Cmp(greatest) > 0 {
			greatest = sum
		}
	}
	return greatest
}

// TestProof: numbers that are the nearest to the solution's leave little, and Residual tells how much: twice that is at most the greatest sum of the amounts of a row. Where nothing is left, they are the solution itself.
func TestProof(t *testing.T) {
	c := &chance{77}
	whole := 0
	for n := 1; n <= api.MaxDim; n++ {
		for range 60 {
			for _, most := range []int64{1, 9, 5000, edge} {
				m, v := c.heavy(n, most), c.vector(n, 1<<40)
				x, err := solve.Near(m, v)
				if err != nil {
					t.Errorf("P7.3: Near(%v, %d): %v", m, v, err)
					continue
				}
				r, err := solve.Residual(m, x, v)
				row := greatestRow(m)
				if err != nil || big.NewInt(2*r).Cmp(row) > 0 {
					t.Errorf("P7.3: Residual(%v, %d, %d): %d, %v; twice that is more than %v", m, x, v, r, err, row)
				}
				if r == 0 {
					whole++
				}
				exact, err := solve.Exact(m, v)
				for i, f := range ratios(exact...) {
					num := new(big.Int).Mul(f.den, big.NewInt(x[i]))
					if r == 0 && (err != nil || num.Cmp(f.num) != 0) {
						t.Errorf("P7.3: nothing is left of %v, %d, %d, but %d isn't the solution: %v, %v", m, x, v, i, f, err)
					}
				}
			}
		}
	}
	if whole < 100 {
		t.Errorf("P7.3: only %d proofs of whole numbers", whole)
	}
}

// TestNoOther: of whole numbers that solve it nothing is left, of all others something is.
func TestNoOther(t *testing.T) {
	c := &chance{78}
	for n := 1; n <= api.MaxDim; n++ {
		for range 20 {
			m, x := c.unit(n, 30), c.vector(n, 1<<20)
			v := make([]int64, n)
			for i, row := range full(m) {
				v[i] = dot(row, bigs(x)).Int64()
			}
			nearIs(t, m, v, x...)
			residualIs(t, m, x, v, 0)
			for i := range n {
				for _, by := range []int64{1, -1, 1 << 30} {
					other := slices.Clone(x)
					other[i] += by
					if r, err := solve.Residual(m, other, v); err != nil || r == 0 {
						t.Errorf("P7.3: Residual(%v, %d, %d): %d, %v", m, other, v, r, err)
					}
				}
			}
		}
	}
}

// TestExactSolves: m times what Exact tells is v, over one determinant that is above 0; Column's is the same of each row.
func TestExactSolves(t *testing.T) {
	c := &chance{79}
	for n := 1; n <= api.MaxDim; n++ {
		for range 30 {
			m, v := c.heavy(n, edge), c.vector(n, top)
			exact, err := solve.Exact(m, v)
			solves(t, m, v, exact, err)
			m = c.unit(n, 11500)
			exact, err = solve.Exact(m, v)
			solves(t, m, v, exact, err)
			for i := range n {
				one := make([]int64, n)
				one[i] = 1
				column, err := solve.Column(m, i)
				solves(t, m, one, column, err)
			}
		}
	}
}

// solves holds fractions against what they solve.
func solves(t *testing.T, m api.Sym, v []int64, exact []api.Frac, err error) {
	t.Helper()
	if err != nil || len(exact) != m.N {
		t.Errorf("P7.3: of %v, %d: %v, %v", m, v, exact, err)
		return
	}
	l := ratios(exact...)
	var nums []*big.Int
	for _, f := range l {
		nums = append(nums, f.num)
		if f.den.Sign() <= 0 || f.den.Cmp(l[0].den) != 0 {
			t.Errorf("P7.3: of %v, %d: %v", m, v, l)
		}
	}
	for i, row := range full(m) {
		if want := new(big.Int).Mul(l[0].den, big.NewInt(v[i])); dot(row, nums).Cmp(want) != 0 {
			t.Errorf("P7.3: of %v, %d: row %d of %v is %v instead of %v", m, v, i, l, dot(row, nums), want)
		}
	}
}

// TestQuadAboveNought: of a definite matrix no h but noughts is 0 or below.
func TestQuadAboveNought(t *testing.T) {
	c := &chance{80}
	for n := 1; n <= api.MaxDim; n++ {
		for range 60 {
			m, h := c.heavy(n, 50), c.vector(n, 300)
			f, err := solve.Quad(m, h)
			some := slices.ContainsFunc(h, func(v int64) bool { return v != 0 })
			if sign := value(f.Num).Sign(); err != nil || some && sign != 1 || !some && sign != 0 {
				t.Errorf("P7.1: Quad(%v, %d): %v, %v", m, h, ratios(f), err)
			}
		}
	}
}
