package sym_test

import (
	"slices"
	"testing"

	"leadline/api"
	"leadline/sym"
)

// call: a call that tells a matrix, and its name.
type call struct {
	name string
	of   func(m api.Sym) (api.Sym, error)
}

// calls tells all calls that tell a matrix of a matrix, with arguments of all kinds: such as are taken, and such as have errors.
func calls() []call {
	var l []call
	for _, k := range []int{0, 1, 2, 3, 8, 9, -1} {
		l = append(l,
			call{"Grow", func(m api.Sym) (api.Sym, error) { return sym.Grow(m, k) }},
			call{"Drop of the first", func(m api.Sym) (api.Sym, error) { return sym.Drop(m, 0, k) }},
			call{"Drop of the last", func(m api.Sym) (api.Sym, error) { return sym.Drop(m, m.N-k, k) }},
			call{"Drop in the middle", func(m api.Sym) (api.Sym, error) { return sym.Drop(m, k, 1) }},
			call{"Drop of none", func(m api.Sym) (api.Sym, error) { return sym.Drop(m, k, 0) }})
		for _, v := range []int64{0, 5, -7, api.MaxEntry, api.MaxEntry + 1} {
			l = append(l,
				call{"Set", func(m api.Sym) (api.Sym, error) { return sym.Set(m, k, 1, v) }},
				call{"Set, the other way round", func(m api.Sym) (api.Sym, error) { return sym.Set(m, 1, k, v) }},
				call{"Diag", func(m api.Sym) (api.Sym, error) { return sym.Diag(m, v) }})
		}
	}
	for _, w := range []int64{0, 1, -3, 1 << 40} {
		l = append(l,
			call{"Outer", func(m api.Sym) (api.Sym, error) { return sym.Outer(m, w, ramp(m.N)) }},
			call{"Outer of noughts", func(m api.Sym) (api.Sym, error) { return sym.Outer(m, w, make([]int64, m.N)) }},
			call{"Outer of another size", func(m api.Sym) (api.Sym, error) { return sym.Outer(m, w, ramp(m.N+1)) }})
	}
	return l
}

// ramp tells n numbers of both signs.
func ramp(n int) []int64 {
	var l []int64
	for i := range n {
		l = append(l, int64(3*i-4))
	}
	return l
}

// spare: what lies in the spare room behind a list.
const spare = 424242

// roomy tells the same numbers with spare room behind them.
func roomy(l []int64) []int64 {
	room := make([]int64, len(l)+60)
	for i := range room {
		room[i] = spare
	}
	copy(room, l)
	return room[:len(l)]
}

// whole holds a list that roomy told, and the spare room behind it, against what they were.
func whole(t *testing.T, name string, l, was []int64) {
	t.Helper()
	if !slices.Equal(l, was) {
		t.Errorf("%s changed what was handed in: %d instead of %d", name, l, was)
	}
	room := l[len(l):cap(l)]
	if slices.ContainsFunc(room, func(v int64) bool { return v != spare }) {
		t.Errorf("%s changed the spare room: %d", name, room)
	}
}

// fill writes v at all places of a list, its spare room included.
func fill(l []int64, v int64) {
	room := l[:cap(l)]
	for i := range room {
		room[i] = v
	}
}

// sharesNot holds an answer against a list that was handed in, as roomy told it: a change of the one, its spare room included, is none of the other.
func sharesNot(t *testing.T, name string, out, in []int64) {
	t.Helper()
	was := slices.Clone(in)
	fill(out, -99)
	whole(t, name+", by its answer,", in, was)
	fill(in, 99)
	if slices.Contains(out[:cap(out)], 99) {
		t.Errorf("%s: the answer shares memory with what was handed in", name)
	}
}

func TestNothingIsChanged(t *testing.T) {
	for _, m := range append(matrices(), wrongs()...) {
		for _, c := range calls() {
			in := api.Sym{N: m.N, A: roomy(m.A)}
			if m.N > 100 || m.N < 0 {
				in.N = 9 // (the lists of these calls have as many numbers)
			}
			out, _ := c.of(in)
			whole(t, "P5.2: "+c.name, in.A, m.A)
			sharesNot(t, "P5.2: "+c.name, out.A, in.A)
		}
	}
}

func TestListsAreNotChanged(t *testing.T) {
	for _, m := range matrices() {
		for _, w := range []int64{0, 1, -1, most} {
			h := roomy(ramp(m.N))
			in := api.Sym{N: m.N, A: roomy(m.A)}
			out, _ := sym.Outer(in, w, h)
			whole(t, "P5.2: Outer", h, ramp(m.N))
			sharesNot(t, "P5.2: Outer", out.A, h)
		}
		x := roomy(ramp(m.N))
		in := api.Sym{N: m.N, A: roomy(m.A)}
		sums, err := sym.Times(in, x)
		whole(t, "P5.2: Times", x, ramp(m.N))
		whole(t, "P5.2: Times", in.A, m.A)
		was := slices.Clone(sums)
		again, other := sym.Times(in, x)
		for i := range sums {
			sums[i] = api.Wide{1, 2, 3}
		}
		if err != nil || other != nil || !slices.Equal(again, was) {
			t.Errorf("P5.2: Times tells the same memory again: %v, %v, %v instead of %v", again, err, other, was)
		}
	}
}

// TestAskedIsNotChanged: At and Right leave what they are asked of as it was.
func TestAskedIsNotChanged(t *testing.T) {
	for _, m := range append(matrices(), wrongs()...) {
		in := api.Sym{N: m.N, A: roomy(m.A)}
		sym.Right(in)
		sym.At(in, 0, 0)
		sym.At(in, m.N, -1)
		whole(t, "P5.1, P5.2: Right, At", in.A, m.A)
	}
}

// symmetric holds a matrix against P5.3: it is right, and the same either way round.
func symmetric(t *testing.T, name string, m api.Sym) {
	t.Helper()
	if !sym.Right(m) {
		t.Errorf("P5.3: %s: %v isn't right", name, m)
	}
	for i := range m.N {
		for j := range m.N {
			a, err := sym.At(m, i, j)
			b, other := sym.At(m, j, i)
			if a != b || err != nil || other != nil {
				t.Errorf("P5.3: %s: %d, %v at (%d, %d), %d, %v the other way round", name, a, err, i, j, b, other)
			}
		}
	}
}

func TestStaysSymmetric(t *testing.T) {
	taken := map[string]int{}
	for _, m := range matrices() {
		for _, c := range calls() {
			out, err := c.of(m)
			if err != nil {
				continue
			}
			taken[c.name]++
			symmetric(t, c.name, out)
		}
	}
	for _, c := range calls() {
		if taken[c.name] == 0 && c.name != "Outer of another size" {
			t.Errorf("P5.3: %s was never taken", c.name)
		}
	}
}

// TestSetEitherWay: an entry is the same one, whichever row is named first.
func TestSetEitherWay(t *testing.T) {
	for _, m := range matrices() {
		for i := range m.N {
			for j := range m.N {
				a, err := sym.Set(m, i, j, 12345)
				b, other := sym.Set(m, j, i, 12345)
				if err != nil || other != nil || !same(a, b) {
					t.Errorf("P5.3: Set at (%d, %d): %v, %v; the other way round %v, %v", i, j, a, err, b, other)
				}
				v, err := sym.At(a, j, i)
				if v != 12345 || err != nil {
					t.Errorf("P5.3: Set at (%d, %d): %d, %v the other way round", i, j, v, err)
				}
			}
		}
	}
}

// TestOneBehindAnother: calls, one behind another, that leave what there was.
func TestOneBehindAnother(t *testing.T) {
	for _, m := range matrices() {
		for k := 0; m.N+k <= api.MaxDim; k++ {
			out, err := sym.Grow(m, k)
			if err == nil {
				out, err = sym.Drop(out, m.N, k)
			}
			told(t, "P5.3: Grow and Drop", out, err, m)
		}
		h := ramp(m.N)
		out, err := sym.Outer(m, 1, h)
		if err == nil {
			out, err = sym.Outer(out, -1, h)
			told(t, "P5.3: Outer and its opposite", out, err, m)
		}
		out, err = sym.Diag(m, 1)
		if err == nil {
			out, err = sym.Diag(out, -1)
			told(t, "P5.3: Diag and its opposite", out, err, m)
		}
	}
	m := sym.New(2)
	var err error
	for _, next := range []func() (api.Sym, error){
		func() (api.Sym, error) { return sym.Diag(m, 100) },
		func() (api.Sym, error) { return sym.Grow(m, 2) },
		func() (api.Sym, error) { return sym.Outer(m, 2, []int64{3, 1, -3, -1}) },
		func() (api.Sym, error) { return sym.Set(m, 3, 1, 7) },
		func() (api.Sym, error) { return sym.Diag(m, 1) },
		func() (api.Sym, error) { return sym.Drop(m, 0, 1) },
	} {
		if m, err = next(); err != nil {
			t.Fatalf("P5.3: %v", err)
		}
		symmetric(t, "one behind another", m)
	}
	told(t, "P5.3: one behind another", m, err, matrix(3, 103, -6, 7, 19, 6, 3))
}
