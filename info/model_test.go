package info_test

import (
	"math/big"
	"slices"
	"testing"

	"leadline/api"
)

// The chapter's words, reckoned in fractions, by no call of the program.

// greater tells whether v's amount is above most.
func greater(v, most int64) bool {
	return big.NewInt(v).CmpAbs(big.NewInt(most)) > 0
}

// isRight tells whether a state is right.
func isRight(s api.State) bool {
	n := s.M.N
	if n < 0 || n > 8 || len(s.M.A) != n*(n+1)/2 || len(s.V) != n {
		return false
	}
	for _, v := range s.M.A {
		if greater(v, edge) {
			return false
		}
	}
	for _, v := range s.V {
		if greater(v, top) {
			return false
		}
	}
	return slices.Contains(orders(), s.Row) && n == sizeOf(s.Row)
}

// whole tells v as a fraction.
func whole(v int64) *big.Rat {
	return new(big.Rat).SetInt64(v)
}

// plus, less, by tell a + b, a - b, a b.
func plus(a, b *big.Rat) *big.Rat { return new(big.Rat).Add(a, b) }
func less(a, b *big.Rat) *big.Rat { return new(big.Rat).Sub(a, b) }
func by(a, b *big.Rat) *big.Rat   { return new(big.Rat).Mul(a, b) }

// fractions tells m's rows, each with the number of v as one more.
func fractions(m api.Sym, v []int64) [][]*big.Rat {
	rows := make([][]*big.Rat, m.N)
	for i := range rows {
		for j := range m.N {
			rows[i] = append(rows[i], whole(m.A[index(m.N, min(i, j), max(i, j))]))
		}
		rows[i] = append(rows[i], whole(v[i]))
	}
	return rows
}

// reduced tells the same equations where each row has noughts ahead of its own number; false, unless all of these are above 0: it isn't definite.
func reduced(rows [][]*big.Rat) bool {
	for i, row := range rows {
		if row[i].Sign() <= 0 {
			return false
		}
		for _, other := range rows[i+1:] {
			share := new(big.Rat).Quo(other[i], row[i])
			for j := i; j < len(row); j++ {
				other[j] = less(other[j], by(share, row[j]))
			}
		}
	}
	return true
}

// solved tells the x with m x = v; false, if m isn't definite.
func solved(m api.Sym, v []int64) ([]*big.Rat, bool) {
	rows := fractions(m, v)
	if !reduced(rows) {
		return nil, false
	}
	x := make([]*big.Rat, m.N)
	for i := m.N - 1; i >= 0; i-- {
		x[i] = rows[i][m.N]
		for j := i + 1; j < m.N; j++ {
			x[i] = less(x[i], by(rows[i][j], x[j]))
		}
		x[i] = new(big.Rat).Quo(x[i], rows[i][i])
	}
	return x, true
}

// nearest tells the whole number nearest to f, of two the greater one.
func nearest(f *big.Rat) *big.Int {
	half := plus(f, big.NewRat(1, 2))
	return new(big.Int).Div(half.Num(), half.Denom()) // towards the lower one, since a denominator is above 0
}

// meant tells a state's mean, or the number of the error.
func meant(s api.State) ([]int64, api.Errno) {
	if !isRight(s) {
		return nil, 23
	}
	x, ok := solved(s.M, s.V)
	if !ok {
		return nil, 30
	}
	var mean []int64
	for _, f := range x {
		n := nearest(f)
		if n.CmpAbs(big.NewInt(top)) > 0 {
			return nil, 21
		}
		mean = append(mean, n.Int64())
	}
	return mean, 0
}

// row tells h of the line between two places, and how long it is, or the number of the error.
func row(mean []int64, first int) ([]int64, int64, api.Errno) {
	for _, i := range []int{0, 1, first, first + 1} {
		if greater(mean[i], farthest) {
			return nil, 0, 21
		}
	}
	x, y := big.NewInt(mean[0]-mean[first]), big.NewInt(mean[1]-mean[first+1])
	r := new(big.Int).Add(new(big.Int).Mul(x, x), new(big.Int).Mul(y, y))
	if r.Sqrt(r); r.Cmp(big.NewInt(1000)) < 0 {
		return nil, 0, 33
	}
	h := make([]int64, len(mean))
	for i, way := range []*big.Int{x, y} {
		part := new(big.Rat).SetFrac(new(big.Int).Mul(way, big.NewInt(256)), r)
		h[i] = nearest(part).Int64()
		h[first+i] = -h[i]
	}
	return h, r.Int64(), 0
}

// quad tells h times the x with m x = h; m is definite.
func quad(m api.Sym, h []int64) *big.Rat {
	x, _ := solved(m, h)
	sum := new(big.Rat)
	for i := range x {
		sum = plus(sum, by(whole(h[i]), x[i]))
	}
	return sum
}

// gated tells whether off is more than there is room for.
func gated(m api.Sym, h []int64, off int64, c api.Config) bool {
	room := by(whole(c.Gamma), plus(quad(m, h), big.NewRat(1, c.Weight)))
	return by(whole(off), whole(off)).Cmp(room) > 0
}

// keeps tells whether sign times m less sign times bound on the diagonal is definite.
func keeps(m api.Sym, sign, bound int64) bool {
	rows := fractions(m, make([]int64, m.N))
	for i := range rows {
		rows[i][i] = less(rows[i][i], whole(bound))
		for j := range rows[i] {
			rows[i][j] = by(whole(sign), rows[i][j])
		}
	}
	return reduced(rows)
}

// summed tells each number of v and weight h_i times by; false, if one's amount is above most then.
func summed(v, h []int64, weight *big.Int, most int64) ([]int64, bool) {
	l := make([]int64, len(v))
	for i := range v {
		sum := new(big.Int).Mul(weight, big.NewInt(h[i]))
		sum.Add(sum, big.NewInt(v[i]))
		if sum.CmpAbs(big.NewInt(most)) > 0 {
			return nil, false
		}
		l[i] = sum.Int64()
	}
	return l, true
}

// measured tells 256 off and the sum of h_j mean_j, weight times.
func measured(h, mean []int64, off, weight int64) *big.Int {
	sum := new(big.Int).Mul(big.NewInt(256), big.NewInt(off))
	for j := range h {
		sum.Add(sum, new(big.Int).Mul(big.NewInt(h[j]), big.NewInt(mean[j])))
	}
	return sum.Mul(sum, big.NewInt(weight))
}

// fused tells the chapter's Fuse: the state, or the number of the error.
func fused(a asked) (api.State, api.Errno) {
	if !isRight(a.s) {
		return api.State{}, 23
	}
	if a.slot < 0 || a.slot > 2 {
		return api.State{}, 20
	}
	if a.s.Row[a.slot] == -1 {
		return api.State{}, 36
	}
	if a.r < 0 || a.r > longest || a.c.Weight < 1 || a.c.Weight > heaviest || a.c.Gamma < 1 || a.c.Gamma > widest {
		return api.State{}, 27
	}
	mean, number := meant(a.s)
	if number != 0 {
		return api.State{}, number
	}
	h, r, number := row(mean, a.s.Row[a.slot])
	if number != 0 {
		return api.State{}, number
	}
	if greater(a.r-r, 1<<22) {
		return api.State{}, 27
	}
	if gated(a.s.M, h, a.r-r, a.c) {
		return api.State{}, 32
	}
	return more(a, h, measured(h, mean, a.r-r, a.c.Weight))
}

// more tells the state with what a range told of it, or the number of the error.
func more(a asked, h []int64, told *big.Int) (api.State, api.Errno) {
	s := api.State{M: api.Sym{N: a.s.M.N}, Row: a.s.Row}
	for i := range h {
		for j := i; j < len(h); j++ {
			entry, ok := summed([]int64{a.s.M.A[index(len(h), i, j)]}, []int64{h[i] * h[j]}, big.NewInt(a.c.Weight), edge)
			if !ok {
				return api.State{}, 21
			}
			s.M.A = append(s.M.A, entry...)
		}
	}
	var ok bool
	if s.V, ok = summed(a.s.V, h, told, top); !ok {
		return api.State{}, 21
	}
	if !keeps(s.M, 1, a.c.Least) {
		return api.State{}, 30
	}
	if !keeps(s.M, -1, a.c.Most) {
		return api.State{}, 31
	}
	return s, 0
}

// meanHolds holds Mean and Place of all slots against the chapter's words.
func meanHolds(t *testing.T, s api.State) {
	t.Helper()
	mean, number := meant(s)
	if number != 0 {
		meanFails(t, s, number)
		placeFails(t, s, -1, number)
	} else {
		meanIs(t, s, mean...)
		placeIs(t, s, -1, at(mean[0], mean[1]))
	}
	for slot, row := range s.Row {
		switch {
		case number == 23:
			placeFails(t, s, slot, 23)
		case row == -1:
			placeFails(t, s, slot, 36)
		case number != 0:
			placeFails(t, s, slot, number)
		default:
			placeIs(t, s, slot, at(mean[row], mean[row+1]))
		}
	}
}

// fuseHolds holds Fuse against the chapter's words, whatever is asked, and tells the number of the error.
func fuseHolds(t *testing.T, a asked) api.Errno {
	t.Helper()
	want, number := fused(a)
	if number == 0 {
		fuseIs(t, a, want)
		return 0
	}
	fuseFails(t, a, number)
	return number
}

// length tells how far off the mean has the beacon of that slot.
func length(t *testing.T, s api.State, slot int) int64 {
	t.Helper()
	mean, number := meant(s)
	if number != 0 {
		t.Fatalf("P18.3: %v has no mean: %v", s, number)
	}
	_, r, number := row(mean, s.Row[slot])
	if number != 0 {
		t.Fatalf("P18.3: %v has no line: %v", s, number)
	}
	return r
}

// lastOff tells the greatest off that passes.
func lastOff(t *testing.T, s api.State, slot int, c api.Config) int64 {
	t.Helper()
	mean, _ := meant(s)
	h, _, number := row(mean, s.Row[slot])
	if number != 0 {
		t.Fatalf("P18.3: %v has no line: %v", s, number)
	}
	room := by(whole(c.Gamma), plus(quad(s.M, h), big.NewRat(1, c.Weight)))
	off := new(big.Int).Quo(room.Num(), room.Denom())
	return off.Sqrt(off).Int64()
}
