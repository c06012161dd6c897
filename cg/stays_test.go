package cg_test

import (
	"slices"
	"testing"

	"leadline/api"
	"leadline/cg"
)

// behind is what lies in the spare room behind a list.
const behind = 818181

// roomy tells a copy of the list, and that with spare room behind it.
func roomy(l []int64) ([]int64, []int64) {
	room := append(slices.Clone(l), all(40, behind)...)
	return room[:len(l)], room
}

// TestNothingIsChanged: what is handed in stays as it was, the spare room behind its lists included, with an error or without.
func TestNothingIsChanged(t *testing.T) {
	d := thrown(21)
	l := append(notRight()[:8], loose(3)...)
	for n := range api.MaxDim + 1 {
		l = append(l, d.heap(n, 300), d.greatest(n))
	}
	for _, m := range l {
		for _, n := range []int{m.N, 2} {
			for _, most := range []int64{5, 1 << 30, top, 2 * top} {
				entries, a := roomy(m.A)
				v, b := roomy(d.list(max(n, 0), most))
				start, c := roomy(d.list(max(n, 0), most))
				was := [][]int64{slices.Clone(a), slices.Clone(b), slices.Clone(c)}
				in := api.Sym{N: m.N, A: entries}
				cg.Run(in, v, start, 9, 2)
				cg.Run(in, v, start, 0, 0)
				cg.Settle(in, v, start, 1<<40)
				cg.Settle(in, v, start, -1)
				if !slices.Equal(a, was[0]) || !slices.Equal(b, was[1]) || !slices.Equal(c, was[2]) {
					t.Errorf("P8.1, P8.2: of %v, %d, %d: what was handed in is %d, %d, %d", m, v, start, a, b, c)
				}
			}
		}
	}
}

// TestNewMemory: what is answered is nobody else's: the start too, where it is the answer.
func TestNewMemory(t *testing.T) {
	d := thrown(22)
	for n := 1; n <= api.MaxDim; n++ {
		m, v := d.heap(n, 300), d.list(n, 1<<20)
		start, room := roomy(d.list(n, 1<<20))
		entries, numbers, was := slices.Clone(m.A), slices.Clone(v), slices.Clone(room)
		off := residual(t, m, start, v)
		for _, enough := range []int64{off, off / 2, 0, -1} {
			x, _, err := cg.Run(m, v, start, api.MaxIter, enough)
			settled, _, other := cg.Settle(m, v, start, enough)
			wasX, wasSettled := slices.Clone(x), slices.Clone(settled)
			for _, l := range [][]int64{x, settled} {
				l = append(l, behind+1)
				for i := range l[:cap(l)] {
					l[:cap(l)][i] = behind + 2
				}
			}
			if err != nil || other != nil || !slices.Equal(m.A, entries) || !slices.Equal(v, numbers) || !slices.Equal(room, was) {
				t.Errorf("P8.1, P8.2: of %v, %d, %d: an answer is what was handed in; %v, %v", m, v, start, err, other)
			}
			x, _, _ = cg.Run(m, v, start, api.MaxIter, enough)
			settled, _, _ = cg.Settle(m, v, start, enough)
			if !slices.Equal(x, wasX) || !slices.Equal(settled, wasSettled) {
				t.Errorf("P8.1, P8.2: of %v, %d, %d: another answer: %d, %d", m, v, start, x, settled)
			}
		}
	}
}

// TestOneListTwice: the same list as v and as start is two lists.
func TestOneListTwice(t *testing.T) {
	l := []int64{7, -3}
	settles(t, of(2, 1, 0, 1), l, l, 0, l, true)
	settles(t, of(2, 2, 1, 2), l, l, -1, []int64{6, -4}, false) // 17 over 3, -13 over 3
	settles(t, of(2, 2, 1, 2), l, l, 4, l, true)
}
