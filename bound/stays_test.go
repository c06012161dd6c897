package bound_test

import (
	"slices"
	"testing"

	"leadline/api"
	"leadline/bound"
	"leadline/fault"
)

// roomy tells m with spare room behind its list, and that list with the room.
func roomy(m api.Sym) (api.Sym, []int64) {
	room := append(slices.Clone(m.A), slices.Repeat([]int64{919191}, 50)...)
	return api.Sym{N: m.N, A: room[:len(m.A)]}, room
}

// TestNothingIsChanged: what is handed in stays as it was, the spare room behind its list included, with an error or without; and asked again, all is told the same.
func TestNothingIsChanged(t *testing.T) {
	d := thrown(10)
	l := wrongs()
	for n := range api.MaxDim + 1 {
		l = append(l, same(n, 0), same(n, edge), filled(n, -edge), d.byOne(n, 300), d.matrix(n, edge))
	}
	for _, m := range l {
		for _, n := range []int{m.N, 2} {
			a, roomA := roomy(m)
			b, roomB := roomy(same(min(max(n, 0), api.MaxDim), 1000))
			wasA, wasB := slices.Clone(roomA), slices.Clone(roomB)
			for _, k := range []int64{0, -3, 1000, -far, far} {
				least, most, errno := bound.Least(a, k), bound.Most(a, k), fault.Code(bound.Between(a, k, 5000))
				above, under := bound.Below(a, b), bound.Below(b, a)
				if bound.Least(a, k) != least || bound.Most(a, k) != most || fault.Code(bound.Between(a, k, 5000)) != errno || bound.Below(a, b) != above || bound.Below(b, a) != under {
					t.Errorf("P9.1: of %v, %d: another answer", m, k)
				}
			}
			if !slices.Equal(roomA, wasA) || !slices.Equal(roomB, wasB) {
				t.Errorf("P9.1: of %v: what was handed in is %d, %d", m, roomA, roomB)
			}
		}
	}
}
