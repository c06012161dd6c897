package motion

import (
	"leadline/api"
	"leadline/fault"
	"leadline/fx"
	"leadline/sym"
	"leadline/wide"
)

// A motion ties the place that is reached to the one that is left, as stiffly as it is told. While both are there, there are two rows more, those of the place that is left; all others are told without them here, and the vehicle's rows are then those of the place that is reached.

// pair: two numbers, one of each row of a place.
type pair [2]int64

// left: the inverse of the block of the place that is left: its adjoint over its determinant.
type left struct {
	adjoint     [2]pair
	determinant api.Wide
}

// inverse tells the inverse of the vehicle's block of m with stiff on its diagonal; false (noughts), unless that is definite.
func inverse(m api.Sym, stiff int64) (left, bool) {
	first, beside, second := entry(m, 0, 0)+stiff, entry(m, 0, 1), entry(m, 1, 1)+stiff
	determinant := less(times(wide.Of(first), second), times(wide.Of(beside), beside))
	if first <= 0 || wide.Sign(determinant) <= 0 {
		return left{}, false
	}
	return left{adjoint: [2]pair{{second, -beside}, {-beside, first}}, determinant: determinant}, true
}

// without tells what becomes of a number of the rows that stay: it is less by from times the inverse times to, which is what hung on the place that is left; rounded once. False (0), if its amount is above most then.
func (l left) without(number int64, from, to pair, most int64) (int64, bool) {
	sum := times(l.determinant, number)
	for p, row := range l.adjoint {
		for q, v := range row {
			sum = less(sum, times(times(wide.Of(v), from[p]), to[q]))
		}
	}
	nearest, _ := wide.Round(sum, l.determinant) // there is room: the sum has at most 119 bits, the determinant 61
	v, ok := wide.Int64(nearest)
	if !ok || !upTo(v, most) {
		return 0, false
	}
	return v, true
}

// matrix tells the matrix of the rows that stay; false (nothing), if an entry is too great.
func matrix(m api.Sym, l left, stiff int64) (api.Sym, bool) {
	var a []int64
	for i := range m.N {
		for j := i; j < m.N; j++ {
			v, ok := l.without(staying(m, stiff, i, j), tie(m, stiff, i), tie(m, stiff, j), api.MaxEntry)
			if !ok {
				return api.Sym{}, false
			}
			a = append(a, v)
		}
	}
	return api.Sym{N: m.N, A: a}, true
}

// vector tells V of the rows that stay; false (nothing), if a number is too great. The motion tells how far the place that is reached is off the one that is left: as much as it tells of the one, it takes off the other.
func vector(s api.State, l left, u pair, stiff int64) ([]int64, bool) {
	behind := append([]int64(nil), s.V...)
	var off pair
	for p := range u {
		behind[p] = stiff * u[p]
		off[p] = s.V[p] - behind[p]
	}
	for i, number := range behind {
		v, ok := l.without(number, tie(s.M, stiff, i), off, api.MaxVector)
		if !ok {
			return nil, false
		}
		behind[i] = v
	}
	return behind, true
}

// staying tells the entry (i, j), i not behind j, of the rows that stay while the place that is left is still there: of the place that is reached only the motion tells.
func staying(m api.Sym, stiff int64, i, j int) int64 {
	switch {
	case i >= len(pair{}):
		return entry(m, i, j)
	case i == j:
		return stiff
	}
	return 0
}

// tie tells what row i of those that stay has in the columns of the place that is left: a beacon's as before, the vehicle's what the motion ties.
func tie(m api.Sym, stiff int64, i int) pair {
	var t pair
	if i < len(t) {
		t[i] = -stiff
		return t
	}
	for p := range t {
		t[p] = entry(m, i, p)
	}
	return t
}

// entry tells m's entry (i, j), either way round; it is there, and m is right.
func entry(m api.Sym, i, j int) int64 {
	v, _ := sym.At(m, i, j)
	return v
}

// times tells a, v times. (Here and in less there is room: nothing that is asked for has more than 119 bits.)
func times(a api.Wide, v int64) api.Wide {
	product, _ := wide.Mul(a, wide.Of(v))
	return product
}

// less tells a less b.
func less(a, b api.Wide) api.Wide {
	rest, _ := wide.Sub(a, b)
	return rest
}

// upTo tells whether v's amount is at most that.
func upTo(v, most int64) bool {
	amount, ok := fx.Amount(v)
	return ok && amount <= most
}

// within tells whether v is from least to most.
func within(v, least, most int64) bool {
	return least <= v && v <= most
}

// wrong tells the fault of that error.
func wrong(err error) error {
	return fault.Wrap("motion", err)
}
