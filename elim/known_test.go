package elim_test

import (
	"math/big"
	"slices"
	"testing"

	"leadline/api"
	"leadline/elim"
)

// unit tells a matrix of n rows all of whose minors are 1: rows times themselves that have 1 on the diagonal, numbers by chance behind it, noughts ahead of it.
func unit(c *chance, n int, most int64) api.Sym {
	rows := make([][]int64, n)
	for i := range rows {
		rows[i] = make([]int64, n)
		rows[i][i] = 1
		for j := i + 1; j < n; j++ {
			rows[i][j] = c.upTo(most)
		}
	}
	return laid(n, func(i, j int) int64 {
		var sum int64
		for r := range n {
			sum += rows[r][i] * rows[r][j]
		}
		return sum
	})
}

// TestDefiniteByOne: all minors are 1; by one less, the last one is 0; by two less, -1.
func TestDefiniteByOne(t *testing.T) {
	c := &chance{64}
	for n := 1; n <= api.MaxDim; n++ {
		for _, most := range []int64{0, 1, 7, 300, 11500} { // 8 times 11500 times itself is just below edge
			for range 20 {
				m := unit(c, n, most)
				ones := slices.Repeat([]int64{1}, n)
				minorsAre(t, m, ones...)
				detIs(t, m, 1)
				definiteIs(t, m, true)
				for _, less := range []int64{1, 2, 3} {
					ones[n-1] = 1 - less
					minorsAre(t, more(m, -less), ones...)
					detIs(t, more(m, -less), 1-less)
					definiteIs(t, more(m, -less), false)
				}
			}
		}
	}
}

// TestGreatAndDefiniteByOne: entries so great that floating numbers wouldn't tell products from one another.
func TestGreatAndDefiniteByOne(t *testing.T) {
	const f41, f42, f43, f44 = 165580141, 267914296, 433494437, 701408733 // Fibonacci's: neighbours' products are 1 off a square
	minorsAre(t, matrix(2, f41, f42, f43), f41, 1)
	definiteIs(t, matrix(2, f41, f42, f43), true)
	minorsAre(t, matrix(2, f42, f43, f44), f42, -1)
	definiteIs(t, matrix(2, f42, f43, f44), false)
	minorsAre(t, matrix(2, edge, edge-1, edge-2), edge, -1)
	definiteIs(t, matrix(2, edge, edge-1, edge-2), false)
	minorsAre(t, matrix(2, edge, edge-1, edge-1), edge, edge-1)
	definiteIs(t, matrix(2, edge, edge-1, edge-1), true)
	minorsAre(t, matrix(2, edge, edge, edge), edge, 0)
	definiteIs(t, matrix(2, edge, edge, edge), false)
}

// form tells x times m x.
func form(m api.Sym, x []int64) *big.Int {
	sum := new(big.Int)
	for i, row := range full(m) {
		for j, v := range row {
			sum.Add(sum, new(big.Int).Mul(v, new(big.Int).Mul(big.NewInt(x[i]), big.NewInt(x[j]))))
		}
	}
	return sum
}

// TestKnown: what is told to be definite has no direction in which it is 0 or below; rows times themselves, and something on the diagonal, are definite.
func TestKnown(t *testing.T) {
	c := &chance{65}
	definite, not := 0, 0
	for range 3000 {
		n := 1 + int(c.next()%api.MaxDim)
		m := filled(n, func() int64 { return c.upTo(6) })
		at := 0
		for i := range n {
			m.A[at] += 12
			at += n - i
		}
		if !elim.Definite(m) {
			not++
			continue
		}
		definite++
		for range 20 {
			x := make([]int64, n)
			for i := range x {
				x[i] = c.upTo(3)
			}
			if slices.ContainsFunc(x, func(v int64) bool { return v != 0 }) && form(m, x).Sign() <= 0 {
				t.Errorf("P6.2: %v is told to be definite; of %d it is %v", m, x, form(m, x))
			}
		}
	}
	if definite < 100 || not < 100 {
		t.Errorf("P6.2: %d are definite, %d aren't", definite, not)
	}
	for n := 1; n <= api.MaxDim; n++ {
		for range 100 {
			h := make([]int64, n)
			for i := range h {
				h[i] = c.upTo(1 << 14)
			}
			m := laid(n, func(i, j int) int64 { return h[i] * h[j] })
			definiteIs(t, m, n == 1 && h[0] != 0)
			at := 0
			for i := range n {
				m.A[at]++
				at += n - i
			}
			definiteIs(t, m, true)
		}
	}
}

// spare: what lies in the spare room behind a list.
const spare = 424242

// TestNothingIsChanged: what is handed in stays as it was, the spare room behind its list included.
func TestNothingIsChanged(t *testing.T) {
	c := &chance{66}
	l := []api.Sym{matrix(0), matrix(0, 1), matrix(-1, 1), matrix(1), matrix(2, 1, 0, 1, 0), matrix(1, edge+1), matrix(9, make([]int64, 45)...), hadamard()}
	for n := range api.MaxDim + 1 {
		l = append(l, filled(n, func() int64 { return c.upTo(edge) }), filled(n, func() int64 { return 0 }), unit(c, n, 50), laid(n, func(i, j int) int64 { return int64(i ^ j) }))
	}
	for _, m := range l {
		room := slices.Repeat([]int64{spare}, len(m.A)+60)
		copy(room, m.A)
		was := slices.Clone(room)
		in := api.Sym{N: m.N, A: room[:len(m.A)]}
		elim.Minors(in)
		elim.Det(in)
		elim.Definite(in)
		if !slices.Equal(room, was) {
			t.Errorf("P6.1: of %v: what was handed in is %d", m, room)
		}
	}
}

// TestNewMemory: what is answered is nobody else's, and the same again.
func TestNewMemory(t *testing.T) {
	c := &chance{67}
	for n := range api.MaxDim + 1 {
		m := unit(c, n, 50)
		minors, err := elim.Minors(m)
		was := slices.Clone(minors)
		minors = minors[:cap(minors)]
		for i := range minors {
			minors[i] = api.Wide{1, 2, 3}
		}
		again, other := elim.Minors(m)
		if err != nil || other != nil || !slices.Equal(again, was) {
			t.Errorf("P6.1: Minors(%v): %v, %v; again %v, %v", m, values(was), err, values(again), other)
		}
		for range 3 {
			check(t, m)
		}
	}
}
