package motion_test

import (
	"math/big"
	"slices"
	"testing"

	"leadline/api"
)

// The chapter's words, reckoned by math/big, by no call of the program.

// greater tells whether v's amount is above most.
func greater(v, most int64) bool {
	return big.NewInt(v).CmpAbs(big.NewInt(most)) > 0
}

// isRight tells whether a state is right.
func isRight(s api.State) bool {
	n := s.M.N
	if n < 0 || n > 8 || len(s.M.A) != n*(n+1)/2 || len(s.V) != n {
		return false
	}
	for _, v := range s.M.A {
		if greater(v, edge) {
			return false
		}
	}
	for _, v := range s.V {
		if greater(v, top) {
			return false
		}
	}
	return slices.Contains(orders(), s.Row) && n == sizeOf(s.Row)
}

// whole tells v, as great as it may become.
func whole(v int64) *big.Int {
	return big.NewInt(v)
}

// plus tells all these together, less a - b, times all these times one another, minus a below nought.
func plus(l ...*big.Int) *big.Int {
	sum := new(big.Int)
	for _, v := range l {
		sum.Add(sum, v)
	}
	return sum
}
func less(a, b *big.Int) *big.Int { return new(big.Int).Sub(a, b) }
func minus(a *big.Int) *big.Int   { return new(big.Int).Neg(a) }
func times(l ...*big.Int) *big.Int {
	product := big.NewInt(1)
	for _, v := range l {
		product.Mul(product, v)
	}
	return product
}

// over tells the whole number nearest to a over d, which is above 0, of two the greater one.
func over(a, d *big.Int) *big.Int {
	return new(big.Int).Div(plus(a, a, d), plus(d, d)) // towards the lower one, since what is below is above 0
}

// half: what the chapter calls a, d, b.
type half struct {
	a00, d *big.Int
	b      [2][2]*big.Int
}

// entry tells M's entry (i, j), either way round.
func (a asked) entry(i, j int) *big.Int {
	return whole(a.s.M.A[index(a.s.M.N, i, j)])
}

// half tells a, d, b; false, unless d and a's first are above 0.
func (a asked) half() (half, bool) {
	k := whole(a.stiff)
	a00, a01, a11 := plus(a.entry(0, 0), k), a.entry(0, 1), plus(a.entry(1, 1), k)
	d := less(times(a00, a11), times(a01, a01))
	return half{a00, d, [2][2]*big.Int{{a11, minus(a01)}, {minus(a01), a00}}}, d.Sign() > 0 && a00.Sign() > 0
}

// around tells the sum over p, q of x_p b_pq y_q.
func (h half) around(x, y [2]*big.Int) *big.Int {
	sum := new(big.Int)
	for p := range 2 {
		for q := range 2 {
			sum = plus(sum, times(x[p], h.b[p][q], y[q]))
		}
	}
	return sum
}

// column tells M's two entries in the vehicle's rows and column r.
func (a asked) column(r int) [2]*big.Int {
	return [2]*big.Int{a.entry(0, r), a.entry(1, r)}
}

// entries tells the new matrix, whatever its entries are, by the chapter's three sentences.
func (a asked) entries(h half) []*big.Int {
	k, n := whole(a.stiff), a.s.M.N
	var l []*big.Int
	for i := range n {
		for j := i; j < n; j++ {
			var above *big.Int
			switch {
			case i < 2 && j < 2:
				above = minus(times(k, k, h.b[i][j]))
				if i == j {
					above = plus(above, times(k, h.d))
				}
			case i < 2:
				above = times(k, plus(times(h.b[i][0], a.entry(0, j)), times(h.b[i][1], a.entry(1, j))))
			default:
				above = less(times(h.d, a.entry(i, j)), h.around(a.column(i), a.column(j)))
			}
			l = append(l, over(above, h.d))
		}
	}
	return l
}

// numbers tells the new V, whatever its numbers are.
func (a asked) numbers(h half) []*big.Int {
	k, u := whole(a.stiff), []*big.Int{whole(a.u.X), whole(a.u.Y)}
	var w [2]*big.Int
	for p := range w {
		w[p] = less(whole(a.s.V[p]), times(k, u[p]))
	}
	var l []*big.Int
	for i, v := range a.s.V {
		if i < 2 {
			l = append(l, over(plus(times(h.d, k, u[i]), times(k, plus(times(h.b[i][0], w[0]), times(h.b[i][1], w[1])))), h.d))
			continue
		}
		l = append(l, over(less(times(h.d, whole(v)), h.around(a.column(i), w)), h.d))
	}
	return l
}

// within tells these numbers; false, if one's amount is above most.
func within(l []*big.Int, most int64) ([]int64, bool) {
	var in []int64
	for _, v := range l {
		if v.CmpAbs(whole(most)) > 0 {
			return nil, false
		}
		in = append(in, v.Int64())
	}
	return in, true
}

// keeps tells whether sign times m less sign times bound on the diagonal is definite.
func keeps(m api.Sym, sign, bound int64) bool {
	rows := make([][]*big.Rat, m.N)
	for i := range rows {
		for j := range m.N {
			v := whole(m.A[index(m.N, i, j)])
			if i == j {
				v = less(v, whole(bound))
			}
			rows[i] = append(rows[i], new(big.Rat).SetInt(times(v, whole(sign))))
		}
	}
	for i, row := range rows {
		if row[i].Sign() <= 0 {
			return false
		}
		for _, other := range rows[i+1:] {
			share := new(big.Rat).Quo(other[i], row[i])
			for j := i; j < m.N; j++ {
				other[j] = new(big.Rat).Sub(other[j], new(big.Rat).Mul(share, row[j]))
			}
		}
	}
	return true
}

// predicted tells what Predict should tell: the state, or the number of the error.
func predicted(a asked) (api.State, api.Errno) {
	if !isRight(a.s) {
		return api.State{}, 23
	}
	if greater(a.u.X, farthest) || greater(a.u.Y, farthest) || a.stiff < 1 || a.stiff > stiffest {
		return api.State{}, 27
	}
	h, ok := a.half()
	if !ok {
		return api.State{}, 30
	}
	s := api.State{M: api.Sym{N: a.s.M.N}, Row: a.s.Row}
	if s.M.A, ok = within(a.entries(h), edge); !ok {
		return api.State{}, 21
	}
	if s.V, ok = within(a.numbers(h), top); !ok {
		return api.State{}, 21
	}
	if !keeps(s.M, 1, a.least) {
		return api.State{}, 30
	}
	if !keeps(s.M, -1, a.most) {
		return api.State{}, 31
	}
	return s, 0
}

// predictHolds holds Predict against the chapter's words, whatever is asked, and tells the number of the error.
func predictHolds(t *testing.T, a asked) api.Errno {
	t.Helper()
	want, number := predicted(a)
	if number == 0 {
		predictIs(t, a, want)
		return 0
	}
	predictFails(t, a, number)
	return number
}

// last tells the bound nearest to fails that m keeps, or, of sign -1, that is kept from above; kept is one that is, fails one that isn't.
func last(m api.Sym, sign, kept, fails int64) int64 {
	for max(kept-fails, fails-kept) > 1 {
		mid := kept + (fails-kept)/2
		if keeps(m, sign, mid) {
			kept = mid
		} else {
			fails = mid
		}
	}
	return kept
}

// bounds tells the greatest least and the least most that a matrix keeps.
func bounds(m api.Sym) (int64, int64) {
	return last(m, 1, -1<<35, 1<<35), last(m, -1, 1<<35, -1<<35)
}
