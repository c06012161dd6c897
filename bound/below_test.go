package bound_test

import (
	"slices"
	"testing"

	"leadline/api"
	"leadline/bound"
)

func TestBelowOfNoRows(t *testing.T) {
	for _, a := range []api.Sym{{}, {A: []int64{}}} {
		for _, b := range []api.Sym{{}, {A: make([]int64, 0, 9)}} {
			belowIs(t, a, b, true)
		}
	}
}

// TestBelowOfOneRow: it is kept, unless a is more.
func TestBelowOfOneRow(t *testing.T) {
	l := []int64{0, 1, -1, 2, -2, 5, 1000, edge - 2, edge - 1, edge, 2 - edge, 1 - edge, -edge}
	for _, v := range l {
		for _, w := range l {
			belowIs(t, matrix(1, v), matrix(1, w), v <= w)
		}
	}
}

// TestItself: a matrix, definite or not, is below itself; not by one more, wherever that is.
func TestItself(t *testing.T) {
	d := thrown(5)
	for n := 1; n <= api.MaxDim; n++ {
		for _, m := range []api.Sym{same(n, 0), same(n, edge), same(n, -edge), filled(n, edge), filled(n, -edge), d.matrix(n, 9), d.matrix(n, edge), d.byOne(n, 300)} {
			belowIs(t, m, m, true)
			belowIs(t, m, api.Sym{N: n, A: slices.Clone(m.A)}, true)
		}
		m := d.matrix(n, 1000)
		for at := range n {
			l := make([]int64, n)
			l[at] = 1
			belowIs(t, m, plus(m, 1, diagonal(l...)), true)
			belowIs(t, plus(m, 1, diagonal(l...)), m, false)
		}
	}
}

// TestOuter: more by an outer product is above, less by one isn't.
func TestOuter(t *testing.T) {
	d := thrown(6)
	for n := 1; n <= api.MaxDim; n++ {
		for _, most := range []int64{1, 9, 1000, 20000} {
			for _, weight := range []int64{1, 2} {
				m, h := d.matrix(n, edge/8), make([]int64, n)
				for i := range h {
					h[i] = d.upTo(most)
				}
				h[d.IntN(n)] = -most
				more := plus(m, weight, outer(h))
				belowIs(t, m, more, true)
				belowIs(t, more, m, false)
				less := plus(m, -weight, outer(h))
				belowIs(t, less, m, true)
				belowIs(t, m, less, false)
				belowIs(t, less, more, true)
				belowIs(t, more, less, false)
			}
		}
	}
}

// TestAboveMaxEntry: differences that no right matrix has.
func TestAboveMaxEntry(t *testing.T) {
	for n := 1; n <= api.MaxDim; n++ {
		belowIs(t, same(n, -edge), same(n, edge), true)
		belowIs(t, same(n, edge), same(n, -edge), false)
		belowIs(t, filled(n, -edge), filled(n, edge), true) // 2 edge everywhere: an outer product, so nowhere less than 0
		belowIs(t, filled(n, edge), filled(n, -edge), false)
		if n == 1 {
			continue
		}
		nearly := filled(n, edge) // of 2 edge everywhere, one less at the end: with 1 on the diagonal it is enough yet, by two less it isn't
		belowIs(t, filled(n, -edge), last(nearly, -1), true)
		belowIs(t, filled(n, -edge), last(nearly, -2), false)
		belowIs(t, filled(n, -edge), last(nearly, -3), false)
	}
	belowIs(t, matrix(2, 0, -edge, 0), matrix(2, edge, edge, edge), false) // 2 edge beside edge and 1
	belowIs(t, matrix(2, -edge, -edge, -edge), matrix(2, edge, edge, edge), true)
	belowIs(t, matrix(2, -edge, -edge, 2-edge), matrix(2, edge, edge, edge), false)
	checkBelow(t, hadamard(), plus(same(api.MaxDim, 0), -1, hadamard()))
	d := thrown(7)
	for n := 1; n <= api.MaxDim; n++ {
		for range 60 {
			a, b := d.matrix(n, edge), d.matrix(n, edge)
			checkBelow(t, a, b)
			for i, on := range same(n, 1).A { // the diagonal as far off as it may be, so that it is kept more often
				if on == 1 {
					a.A[i], b.A[i] = -edge, edge
				}
			}
			checkBelow(t, a, b)
		}
	}
}

// TestBelowByOne: a difference that, with 1 on the diagonal, is definite by one, and one that just isn't.
func TestBelowByOne(t *testing.T) {
	d := thrown(8)
	for n := 1; n <= api.MaxDim; n++ {
		for _, most := range []int64{0, 1, 7, 300, 8000} {
			for range 6 {
				a := d.matrix(n, edge/2)
				b := plus(plus(a, 1, d.byOne(n, most)), -1, same(n, 1))
				belowIs(t, a, b, true)
				belowIs(t, a, last(b, -1), false)
				belowIs(t, a, last(b, -2), false)
				belowIs(t, last(a, 1), b, false)
				checkBelow(t, a, b)
				checkBelow(t, last(a, 1), b)
			}
		}
	}
}

// TestBelowByChance holds matrices that are near one another, too.
func TestBelowByChance(t *testing.T) {
	d := thrown(9)
	kept := 0
	for n := 1; n <= api.MaxDim; n++ {
		for range 40 {
			for _, most := range []int64{1, 2, 9, 1000} {
				a := d.matrix(n, edge-2*most)
				b := plus(plus(a, 1, d.matrix(n, most)), 1, same(n, most))
				checkBelow(t, a, b)
				if bound.Below(a, b) {
					kept++
				}
			}
		}
	}
	if kept < 100 {
		t.Errorf("P9.1: kept %d times only", kept)
	}
}

// TestBelowEveryOne holds all matrices of two rows with entries of -1, 0 and 1 against one another.
func TestBelowEveryOne(t *testing.T) {
	var l []api.Sym
	for which := range 27 {
		l = append(l, matrix(2, int64(which%3-1), int64(which/3%3-1), int64(which/9-1)))
	}
	for _, a := range l {
		for _, b := range l {
			checkBelow(t, a, b)
		}
	}
}

// TestBelowOfNotRight: false, whichever of the two isn't right; also of itself.
func TestBelowOfNotRight(t *testing.T) {
	for _, m := range wrongs() {
		belowIs(t, m, m, false)
		for n := range api.MaxDim + 1 {
			for _, right := range []api.Sym{same(n, edge), same(n, 0), same(n, -edge)} {
				belowIs(t, m, right, false)
				belowIs(t, right, m, false)
			}
		}
	}
}

// TestOtherSizes: false, of right matrices whose sizes aren't the same.
func TestOtherSizes(t *testing.T) {
	for n := range api.MaxDim + 1 {
		for k := range api.MaxDim + 1 {
			belowIs(t, same(n, 3), same(k, 5), n == k)
			belowIs(t, same(n, -edge), same(k, edge), n == k)
		}
	}
}
