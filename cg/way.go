package cg

import (
	"leadline/api"
	"leadline/wide"
)

// The steps are those of conjugate gradients: each goes as far as is best on its line, and no later one loses what it has won. But for rounding as many steps as there are rows suffice; so the numbers have as many bits behind the point as there is room for.
//
// No number on the way is too great for a Wide. As m measures (a vector's length is the root of it times m times it), what is missing to the solution never grows, since no step goes farther than is best, and a direction isn't longer than what is left, of which it is made. The numbers of start and solution are MaxVector at most; m's eigenvalues are 2 to the 33 together at most and, as the determinant is their product and at least 1, each is at least 2 to the -212. So in parts x has at most 373 bits, what is left 284, a direction 406, and what is rounded, with what Round adds to it, 1008.

// way: the x that was reached, what is left there (v less m x), and which way the next step goes, these three in parts.
type way struct {
	m                  api.Sym
	v                  []int64
	rows               [][]api.Wide // all entries of m
	x, left, direction []api.Wide
}

// one tells how many parts make one.
func one() api.Wide {
	return api.Wide{0, 0, 0, 1} // 2 to the 192
}

// parts tells v in parts.
func parts(v int64) api.Wide {
	product, _ := wide.Mul(wide.Of(v), one())
	return product
}

// begin tells the way to the x with m x = v; all are of one size, and m is definite.
func begin(m api.Sym, start, v []int64) *way {
	w := &way{m: m, v: v, rows: square(m)}
	for _, n := range start {
		w.x = append(w.x, parts(n))
	}
	w.left = w.rest()
	w.direction = w.left
	return w
}

// step goes on by one step; false, if there is no way on.
func (w *way) step() bool {
	turned := times(w.rows, w.direction)
	length := dot(w.direction, turned)
	if wide.Sign(length) == 0 { // m is definite, so the direction is all noughts
		return false
	}
	w.x = moved(w.x, w.direction, dot(w.direction, w.left), length)
	w.left = w.rest()
	w.direction = moved(w.left, w.direction, minus(dot(w.left, turned)), length)
	return true
}

// rest tells v less m x.
func (w *way) rest() []api.Wide {
	var l []api.Wide
	for i, product := range times(w.rows, w.x) {
		rest, _ := wide.Sub(parts(w.v[i]), product)
		l = append(l, rest)
	}
	return l
}

// place tells the whole numbers nearest to x, and their Residual, or its error; ErrOver of one that an int64 hasn't, too.
func (w *way) place() (place, error) {
	var x []int64
	for _, a := range w.x {
		n, _ := wide.Round(a, one())
		number, ok := wide.Int64(n)
		if !ok {
			return place{}, api.ErrOver
		}
		x = append(x, number)
	}
	return placed(w.m, x, w.v)
}
