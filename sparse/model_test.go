package sparse_test

import (
	"math/big"
	"slices"
	"testing"

	"leadline/api"
)

// The chapter's words, reckoned by math/big, by no call of the program.

// greater tells whether v's amount is above most.
func greater(v, most int64) bool {
	return whole(v).CmpAbs(whole(most)) > 0
}

// isRight tells whether a state is right.
func isRight(s api.State) bool {
	n := s.M.N
	if n < 0 || n > 8 || len(s.M.A) != n*(n+1)/2 || len(s.V) != n {
		return false
	}
	for _, v := range s.M.A {
		if greater(v, edge) {
			return false
		}
	}
	for _, v := range s.V {
		if greater(v, top) {
			return false
		}
	}
	return slices.Contains(orders(), s.Row) && n == sizeOf(s.Row)
}

// whole tells v, as great as it may become.
func whole(v int64) *big.Int {
	return big.NewInt(v)
}

// plus, less, times tell a + b, a - b, a b; amount tells a without its sign.
func plus(a, b *big.Int) *big.Int  { return new(big.Int).Add(a, b) }
func less(a, b *big.Int) *big.Int  { return new(big.Int).Sub(a, b) }
func times(a, b *big.Int) *big.Int { return new(big.Int).Mul(a, b) }
func amount(a *big.Int) *big.Int   { return new(big.Int).Abs(a) }

// square tells m's rows, both halves of them.
func square(m api.Sym) [][]*big.Int {
	rows := make([][]*big.Int, m.N)
	for i := range rows {
		for j := range m.N {
			rows[i] = append(rows[i], whole(m.A[index(m.N, i, j)]))
		}
	}
	return rows
}

// across tells rows times x.
func across(rows [][]*big.Int, x []*big.Int) []*big.Int {
	var l []*big.Int
	for _, row := range rows {
		sum := new(big.Int)
		for j, v := range row {
			sum = plus(sum, times(v, x[j]))
		}
		l = append(l, sum)
	}
	return l
}

// wholes tells these numbers, as great as they may become.
func wholes(l []int64) []*big.Int {
	var w []*big.Int
	for _, v := range l {
		w = append(w, whole(v))
	}
	return w
}

// fractions tells rows as fractions, each with the numbers of more of that row behind it.
func fractions(rows [][]*big.Int, more ...[]int64) [][]*big.Rat {
	l := make([][]*big.Rat, len(rows))
	for i, row := range rows {
		for _, v := range row {
			l[i] = append(l[i], new(big.Rat).SetInt(v))
		}
		for _, v := range more {
			l[i] = append(l[i], new(big.Rat).SetInt64(v[i]))
		}
	}
	return l
}

// reduced tells the same equations where each row has noughts ahead of its own number; false, unless all of these are above 0: it isn't definite.
func reduced(rows [][]*big.Rat) bool {
	for i, row := range rows {
		if row[i].Sign() <= 0 {
			return false
		}
		for _, other := range rows[i+1:] {
			share := new(big.Rat).Quo(other[i], row[i])
			for j := i; j < len(row); j++ {
				other[j] = new(big.Rat).Sub(other[j], new(big.Rat).Mul(share, row[j]))
			}
		}
	}
	return true
}

// solved tells the x with m x = v; false, if m isn't definite.
func solved(m api.Sym, v []int64) ([]*big.Rat, bool) {
	rows := fractions(square(m), v)
	if !reduced(rows) {
		return nil, false
	}
	x := make([]*big.Rat, m.N)
	for i := m.N - 1; i >= 0; i-- {
		x[i] = rows[i][m.N]
		for j := i + 1; j < m.N; j++ {
			x[i] = new(big.Rat).Sub(x[i], new(big.Rat).Mul(rows[i][j], x[j]))
		}
		x[i] = new(big.Rat).Quo(x[i], rows[i][i])
	}
	return x, true
}

// nearest tells the whole number nearest to f, of two the greater one.
func nearest(f *big.Rat) *big.Int {
	half := new(big.Rat).Add(f, big.NewRat(1, 2))
	return new(big.Int).Div(half.Num(), half.Denom()) // towards the lower one, since a denominator is above 0
}

// meant tells a right state's mean, or the number of the error.
func meant(s api.State) ([]*big.Int, api.Errno) {
	x, ok := solved(s.M, s.V)
	if !ok {
		return nil, 30
	}
	var mean []*big.Int
	for _, f := range x {
		v := nearest(f)
		if v.CmpAbs(whole(top)) > 0 {
			return nil, 21
		}
		mean = append(mean, v)
	}
	return mean, 0
}

// keeps tells whether m less least on the diagonal is definite.
func keeps(m api.Sym, least int64) bool {
	rows := square(m)
	for i := range rows {
		rows[i][i] = less(rows[i][i], whole(least))
	}
	return reduced(fractions(rows))
}

// below tells whether other less m, with one more on the diagonal, is definite.
func below(m, other api.Sym) bool {
	rows, off := square(other), square(m)
	for i := range rows {
		for j := range rows[i] {
			rows[i][j] = less(rows[i][j], off[i][j])
		}
		rows[i][i] = plus(rows[i][i], whole(1))
	}
	return reduced(fractions(rows))
}

// linkOf tells what Link should tell, or the number of the error.
func linkOf(s api.State, slot int) (int64, api.Errno) {
	if !isRight(s) {
		return 0, 23
	}
	if slot < 0 || slot > 2 {
		return 0, 20
	}
	row := s.Row[slot]
	if row == -1 {
		return 0, 36
	}
	rows, sum := square(s.M), new(big.Int)
	for p := range 2 {
		for q := range 2 {
			sum = plus(sum, amount(rows[p][row+q]))
		}
	}
	return sum.Int64(), 0
}

// weakestOf tells what Weakest should tell; -1: none.
func weakestOf(s api.State) int {
	weakest, least := -1, int64(0)
	for _, slot := range []int{2, 1, 0} { // of several that are equal the last one here is the lowest
		if v, number := linkOf(s, slot); number == 0 && v != 0 && (weakest == -1 || v <= least) {
			weakest, least = slot, v
		}
	}
	return weakest
}

// takenOff tells the matrix ahead of a cut of the link to that row less the one behind it: the link, and on the diagonal what stands in its rows and columns.
func takenOff(m api.Sym, row int) [][]*big.Int {
	ahead, off := square(m), square(even(m.N, 0))
	for p := range 2 {
		for q := row; q < row+2; q++ {
			v := ahead[p][q]
			off[p][q], off[q][p] = v, v
			off[p][p], off[q][q] = plus(off[p][p], amount(v)), plus(off[q][q], amount(v))
		}
	}
	return off
}

// within tells the triangle of these rows, and these numbers; false, if one's amount is above the limit of its kind.
func within(rows [][]*big.Int, numbers []*big.Int) ([]int64, []int64, bool) {
	var a, v []int64
	for i, row := range rows {
		for _, entry := range row[i:] {
			if entry.CmpAbs(whole(edge)) > 0 {
				return nil, nil, false
			}
			a = append(a, entry.Int64())
		}
	}
	for _, number := range numbers {
		if number.CmpAbs(whole(top)) > 0 {
			return nil, nil, false
		}
		v = append(v, number.Int64())
	}
	return a, v, true
}

// behind tells the matrix and V behind a cut of s, whatever their numbers are, of the mean that it has.
func behind(s api.State, slot int, mean []*big.Int) ([][]*big.Int, []*big.Int) {
	off := takenOff(s.M, s.Row[slot])
	rows, numbers := square(s.M), wholes(s.V)
	for i, v := range across(off, mean) {
		numbers[i] = less(numbers[i], v)
		for j := range rows {
			rows[i][j] = less(rows[i][j], off[i][j])
		}
	}
	return rows, numbers
}

// cutOf tells what Cut should tell: the state, or the number of the error.
func cutOf(a asked) (api.State, api.Errno) {
	if _, number := linkOf(a.s, a.slot); number != 0 {
		return api.State{}, number
	}
	mean, number := meant(a.s)
	if number != 0 {
		return api.State{}, number
	}
	rows, numbers := behind(a.s, a.slot, mean)
	s, ok := api.State{M: api.Sym{N: a.s.M.N}, Row: a.s.Row}, false
	if s.M.A, s.V, ok = within(rows, numbers); !ok {
		return api.State{}, 21
	}
	if !keeps(s.M, a.least) {
		return api.State{}, 30
	}
	return s, 0
}

// linkHolds holds Link of that slot against the chapter's words, and tells the number of the error.
func linkHolds(t *testing.T, s api.State, slot int) api.Errno {
	t.Helper()
	want, number := linkOf(s, slot)
	if number == 0 {
		linkIs(t, s, slot, want)
		return 0
	}
	linkFails(t, s, slot, number)
	return number
}

// cutHolds holds Cut against the chapter's words, whatever is asked, and tells the number of the error.
func cutHolds(t *testing.T, a asked) api.Errno {
	t.Helper()
	want, number := cutOf(a)
	if number == 0 {
		cutIs(t, a, want)
		return 0
	}
	cutFails(t, a, number)
	return number
}

// lastLeast tells the greatest least that m keeps.
func lastLeast(m api.Sym) int64 {
	kept, fails := int64(-1<<35), int64(1<<35)
	for fails-kept > 1 {
		mid := kept + (fails-kept)/2
		if keeps(m, mid) {
			kept = mid
		} else {
			fails = mid
		}
	}
	return kept
}
