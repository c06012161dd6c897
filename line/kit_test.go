package line_test

import (
	"errors"
	"math"
	"math/big"
	"math/rand/v2"
	"slices"
	"testing"

	"leadline/api"
	"leadline/fault"
	"leadline/line"
)

// By the chapter: the greatest amount of a coordinate, the least R, one.
const (
	farthest = 4194304
	nearest  = 1000
	unit     = 256
)

// at tells a place.
func at(x, y int64) api.Point {
	return api.Point{X: x, Y: y}
}

// spots tells coordinates that may be: the ends, those beside them, nought, some between.
func spots() []int64 {
	return []int64{-farthest, 1 - farthest, -farthest / 2, -1234567, -1000, -999, -1, 0, 1, 600, 707, 1001, 848895, farthest / 2, farthest - 1, farthest}
}

// beyond tells numbers whose amount is above MaxPlace: those beside it, those whose lower bits look like one below, the ends of the type.
func beyond() []int64 {
	l := []int64{math.MinInt64, math.MinInt64 + 1, math.MinInt64 + farthest, math.MaxInt64 - farthest, math.MaxInt64 - 1, math.MaxInt64}
	for _, bit := range []int{23, 24, 31, 32, 33, 48, 62} {
		l = append(l, 1<<bit, -1<<bit, 1<<bit+1, 1<<bit+farthest, -1<<bit-1, -1<<bit-farthest)
	}
	return append(l, farthest+1, -farthest-1, farthest+2, -farthest-2, 2*farthest+1, 3*farthest+1)
}

// thrown tells a source of numbers by chance, always the same ones of a seed.
func thrown(seed uint64) *rand.Rand {
	return rand.New(rand.NewPCG(seed, 16))
}

// upTo tells a number of an amount at most that by chance.
func upTo(d *rand.Rand, most int64) int64 {
	return d.Int64N(2*most+1) - most
}

// somewhere tells a place that may be by chance.
func somewhere(d *rand.Rand) api.Point {
	return at(upTo(d, farthest), upTo(d, farthest))
}

// lined tells the chapter's Of: the line, or the number of the error.
func lined(from, to api.Point) (api.Line, api.Errno) {
	for _, v := range []int64{from.X, from.Y, to.X, to.Y} {
		if big.NewInt(v).CmpAbs(big.NewInt(farthest)) > 0 {
			return api.Line{}, 21
		}
	}
	x, y := big.NewInt(to.X-from.X), big.NewInt(to.Y-from.Y)
	r := new(big.Int).Add(new(big.Int).Mul(x, x), new(big.Int).Mul(y, y))
	if r.Sqrt(r); r.Cmp(big.NewInt(nearest)) < 0 {
		return api.Line{}, 33
	}
	return api.Line{H: [2]int64{share(x, r), share(y, r)}, R: r.Int64()}, 0
}

// share tells the whole number nearest to 256 v over r, of two the greater one.
func share(v, r *big.Int) int64 {
	n := new(big.Int).Mul(v, big.NewInt(2*unit))
	return n.Div(n.Add(n, r), new(big.Int).Lsh(r, 1)).Int64() // towards the lower one, since r is above 0
}

// isWrong holds an error against what is promised: a fault of this package in which that number is found.
func isWrong(t *testing.T, what string, of any, err error, want api.Errno) {
	t.Helper()
	if _, ok := err.(*fault.Fault); !ok {
		t.Errorf("%s%v: %v, %T is no fault", what, of, err, err)
		return
	}
	var n api.Errno
	if !errors.As(err, &n) || n != want || !errors.Is(err, want) {
		t.Errorf("%s%v: %v instead of %v", what, of, err, want)
	}
	if fault.Code(err) != want || !fault.Is(err, want) {
		t.Errorf("%s%v: number %d", what, of, fault.Code(err))
	}
	if ops := fault.Ops(err); len(ops) == 0 || ops[0] != "line" {
		t.Errorf("%s%v: ops %q", what, of, ops)
	}
}

// ofIs holds Of against a line that is written down.
func ofIs(t *testing.T, from, to api.Point, east, north, r int64) {
	t.Helper()
	got, err := line.Of(from, to)
	if want := (api.Line{H: [2]int64{east, north}, R: r}); err != nil || got != want {
		t.Errorf("P16.1: Of(%v, %v): %v, %v instead of %v", from, to, got, err, want)
	}
}

// ofFails holds Of against that error, with nothing beside it.
func ofFails(t *testing.T, from, to api.Point, want api.Errno) {
	t.Helper()
	got, err := line.Of(from, to)
	if got != (api.Line{}) {
		t.Errorf("P16.1: Of(%v, %v): %v beside an error", from, to, got)
	}
	isWrong(t, "P16.1: Of", []api.Point{from, to}, err, want)
}

// ofHolds holds two places, whatever they are, against the chapter's words, both ways; it tells whether there is a line.
func ofHolds(t *testing.T, a, b api.Point) bool {
	t.Helper()
	there := true
	for _, x := range [][2]api.Point{{a, b}, {b, a}} {
		want, number := lined(x[0], x[1])
		if number == 0 {
			ofIs(t, x[0], x[1], want.H[0], want.H[1], want.R)
			continue
		}
		ofFails(t, x[0], x[1], number)
		there = false
	}
	return there
}

// asked: what Row is told.
type asked struct {
	n, at int
	h     [2]int64
}

// rowIs holds Row against numbers that are written down.
func rowIs(t *testing.T, a asked, want ...int64) {
	t.Helper()
	got, err := line.Row(a.n, a.at, a.h)
	if err != nil || !slices.Equal(got, want) {
		t.Errorf("P16.1: Row%v: %d, %v instead of %d", a, got, err, want)
	}
}

// rowFails holds Row against that error, with nothing beside it.
func rowFails(t *testing.T, a asked, want api.Errno) {
	t.Helper()
	got, err := line.Row(a.n, a.at, a.h)
	if len(got) != 0 {
		t.Errorf("P16.1: Row%v: %d beside an error", a, got)
	}
	isWrong(t, "P16.1: Row", a, err, want)
}

// rows tells all rows that may be: how many numbers, and where the other place's begin.
func rows() []asked {
	var l []asked
	for _, x := range [][2]int{{4, 2}, {5, 3}, {6, 4}, {7, 5}, {8, 6}} { // n, and the last at
		for at := 2; at <= x[1]; at++ {
			l = append(l, asked{n: x[0], at: at})
		}
	}
	return l
}

// rowless tells rows that may not be.
func rowless() []asked {
	var l []asked
	for _, n := range []int{math.MinInt, math.MinInt + 1, math.MinInt + 2, math.MinInt + 8, math.MinInt32, -8, -6, -1, 0, 1, 9, 10, 16, 256 + 6, 1<<32 + 6, -1<<32 + 6, math.MaxInt32, math.MaxInt - 1, math.MaxInt} {
		for _, at := range []int{math.MinInt, -1, 0, 1, 2, 3, 4, 6, n - 3, n - 2, math.MaxInt} { // n - 2 may go round: that is one more number to try
			l = append(l, asked{n: n, at: at})
		}
	}
	for _, n := range []int{2, 3, 4, 5, 6, 7, 8} {
		for _, at := range []int{math.MinInt, math.MinInt + 2, math.MinInt32, -8, -2, -1, 0, 1, n - 1, n, n + 1, 8, 9, 256 + 2, 1<<32 + 2, -1<<32 + 2, math.MaxInt32, math.MaxInt - 1, math.MaxInt} {
			l = append(l, asked{n: n, at: at})
		}
	}
	return append(l, asked{n: 2, at: 2}, asked{n: 3, at: 2}, asked{n: 3, at: 3})
}
