package sparse

import (
	"testing"

	"leadline/api"
	"leadline/fault"
	"leadline/sym"
)

// What is held here no caller can ask Cut: a diagonal entry of a definite matrix never comes to -MaxEntry, so the mean's error is told ahead of it.

// diagonals tells four rows with these diagonal entries, and in the link one entry of each row of the vehicle's.
func diagonals(l [4]int64, one, two int64) api.Sym {
	return api.Sym{N: 4, A: []int64{l[0], 0, one, 0, l[1], 0, two, l[2], 0, l[3]}}
}

// TestApartAtTheEnd: diagonal entries of each of the four rows that come just to -MaxEntry, and one past it.
func TestApartAtTheEnd(t *testing.T) {
	const edge = api.MaxEntry
	for i := range 4 {
		for _, off := range []int64{9, -9, edge, -edge} {
			amount := max(off, -off)
			l := [4]int64{amount, amount, amount, amount}
			l[i] = amount - edge
			m, err := apart(diagonals(l, off, -off), 2)
			if v, _ := sym.At(m, i, i); err != nil || v != -edge {
				t.Errorf("P20.2: row %d: %v, %v", i, m, err)
			}
			for r := range 4 {
				if v, _ := sym.At(m, r, r); r != i && v != 0 {
					t.Errorf("P20.2: row %d: %v", i, m)
				}
			}
			if l[i]--; l[i] < -edge {
				continue
			}
			m, err = apart(diagonals(l, off, -off), 2)
			if fault.Code(err) != api.ErrOver || m.N != 0 || len(m.A) != 0 {
				t.Errorf("P20.2: row %d, one past it: %v, %v", i, m, err)
			}
		}
	}
}

// TestApartFarPast: links of the greatest amounts, the diagonal being the least: three times MaxEntry below nought.
func TestApartFarPast(t *testing.T) {
	const edge = api.MaxEntry
	m := api.Sym{N: 4, A: []int64{-edge, 0, edge, -edge, -edge, edge, edge, -edge, 0, -edge}}
	if got, err := apart(m, 2); fault.Code(err) != api.ErrOver || got.N != 0 || len(got.A) != 0 {
		t.Errorf("P20.2: %v, %v", got, err)
	}
}
