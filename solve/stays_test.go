package solve_test

import (
	"slices"
	"testing"

	"leadline/api"
	"leadline/solve"
)

// spare: what lies in the spare room behind a list.
const spare = 424242

// roomy tells the list with spare room behind it, and that room with it.
func roomy(l []int64) ([]int64, []int64) {
	room := slices.Repeat([]int64{spare}, len(l)+60)
	copy(room, l)
	return room[:len(l)], room
}

// TestNothingIsChanged: what is handed in stays as it was, the spare room behind its lists included, with an error or without.
func TestNothingIsChanged(t *testing.T) {
	c := &chance{81}
	l := wrongs()
	for n := range api.MaxDim + 1 {
		l = append(l, c.heavy(n, edge), c.unit(n, 50), diagonal(n, 0, 0), diagonal(n, edge, edge))
	}
	for _, m := range l {
		for n := range api.MaxDim + 2 {
			for _, most := range []int64{5, top, 4 * top} {
				entries, a := roomy(m.A)
				v, b := roomy(c.vector(n, most))
				x, d := roomy(c.vector(n, most))
				was := [][]int64{slices.Clone(a), slices.Clone(b), slices.Clone(d)}
				in := api.Sym{N: m.N, A: entries}
				solve.Exact(in, v)
				solve.Near(in, v)
				solve.Quad(in, v)
				solve.Residual(in, x, v)
				solve.Residual(in, v, v)
				solve.Column(in, n)
				for i, room := range [][]int64{a, b, d} {
					if !slices.Equal(room, was[i]) {
						t.Errorf("P7.1, P7.2: of %v, %d: what was handed in is %d", m, v, room)
					}
				}
			}
		}
	}
}

// spoil writes over a list, its spare room too.
func spoil[T any](l []T, v T) {
	l = l[:cap(l)]
	for i := range l {
		l[i] = v
	}
}

// TestNewMemory: what is answered is nobody else's, and the same again.
func TestNewMemory(t *testing.T) {
	c := &chance{82}
	for n := 1; n <= api.MaxDim; n++ {
		m, v := c.heavy(n, edge), c.vector(n, top)
		entries, numbers := slices.Clone(m.A), slices.Clone(v)
		exact, _ := solve.Exact(m, v)
		near, _ := solve.Near(m, v)
		column, _ := solve.Column(m, n-1)
		wasExact, wasNear, wasColumn := slices.Clone(exact), slices.Clone(near), slices.Clone(column)
		spoil(exact, api.Frac{Num: api.Wide{1, 2}})
		spoil(near, spare)
		spoil(column, api.Frac{Den: api.Wide{3}})
		if !slices.Equal(m.A, entries) || !slices.Equal(v, numbers) {
			t.Errorf("P7.1: of %v, %d: an answer is what was handed in", m, v)
		}
		exact, _ = solve.Exact(m, v)
		near, _ = solve.Near(m, v)
		column, _ = solve.Column(m, n-1)
		if !slices.Equal(exact, wasExact) || !slices.Equal(near, wasNear) || !slices.Equal(column, wasColumn) {
			t.Errorf("P7.1: of %v, %d: another answer", m, v)
		}
	}
}

// TestOneListTwice: the same list as x and as v is two lists.
func TestOneListTwice(t *testing.T) {
	l := []int64{7, -3}
	residualIs(t, matrix(2, 2, 1, 2), l, l, 4)
	residualIs(t, matrix(2, 1, 0, 1), l, l, 0)
}
