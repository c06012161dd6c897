package dead_test

import (
	"errors"
	"math"
	"math/big"
	"math/rand/v2"
	"testing"

	"leadline/angle"
	"leadline/api"
	"leadline/dead"
	"leadline/fault"
)

// What may be, by the chapter: the greatest amount of a speed, the longest time, the greatest amount of a coordinate.
const (
	fastest  = 10000
	longest  = 60000
	farthest = 4194304
)

// leg: what Move is told.
type leg struct {
	heading      uint16
	ahead, right int64
	millis       uint32
}

// headings tells the quarters' ends, those beside them, and some between.
func headings() []uint16 {
	var l []uint16
	for quarter := range 4 {
		end := uint16(quarter << 14)
		l = append(l, end-1, end, end+1, end+2, end+5461, end+8191, end+8192, end+8193, end+12345)
	}
	return l
}

// speeds tells speeds that may be: the ends, those beside them, nought, some between.
func speeds() []int64 {
	return []int64{-fastest, 1 - fastest, 2 - fastest, -4321, -1000, -2, -1, 0, 1, 2, 1000, 1500, 6789, fastest - 2, fastest - 1, fastest}
}

// times tells times that may be: the ends, those beside them, some between.
func times() []uint32 {
	return []uint32{0, 1, 2, 250, 499, 500, 501, 999, 1000, 1001, 32768, 54321, longest - 2, longest - 1, longest}
}

// tooLong tells times that may not be: those beside the longest, those whose lower bits look like one that may be, the greatest.
func tooLong() []uint32 {
	return []uint32{longest + 1, longest + 2, 65535, 65536, 65536 + 1000, 1 << 24, 1<<31 - 1, 1 << 31, 1<<31 + 1000, 1<<32 - longest, math.MaxUint32 - 1, math.MaxUint32}
}

// beyond tells numbers whose amount is above most: those beside it, those whose lower bits look like one below, the ends of the type.
func beyond(most int64) []int64 {
	l := []int64{math.MinInt64, math.MinInt64 + 1, math.MinInt64 + most, math.MaxInt64 - most, math.MaxInt64 - 1, math.MaxInt64}
	for _, bit := range []int{24, 31, 32, 33, 48, 62} {
		l = append(l, 1<<bit, -1<<bit, 1<<bit+1, 1<<bit+most, -1<<bit-1, -1<<bit-most)
	}
	return append(l, most+1, -most-1, most+2, -most-2, 2*most, -2*most, 3*most+1)
}

// thrown tells a source of numbers by chance, always the same ones of a seed.
func thrown(seed uint64) *rand.Rand {
	return rand.New(rand.NewPCG(seed, 15))
}

// upTo tells a number of an amount at most that by chance.
func upTo(d *rand.Rand, most int64) int64 {
	return d.Int64N(2*most+1) - most
}

// someLeg tells a leg that may be by chance.
func someLeg(d *rand.Rand) leg {
	return leg{uint16(d.Uint32()), upTo(d, fastest), upTo(d, fastest), d.Uint32N(longest + 1)}
}

// moved tells the chapter's Move of a leg that may be.
func moved(l leg) api.Point {
	f, s, sin, cos := l.ahead, l.right, angle.Sin(l.heading), angle.Cos(l.heading)
	return api.Point{X: far(product(f, sin), product(s, cos), l.millis), Y: far(product(f, cos), product(-s, sin), l.millis)}
}

// far tells the whole number nearest to the sum of two parts times t over 32768000, of two the greater one.
func far(one, two *big.Int, t uint32) int64 {
	n := new(big.Int).Add(one, two)
	n.Mul(n, big.NewInt(2*int64(t)))
	return n.Div(n.Add(n, big.NewInt(32768000)), big.NewInt(65536000)).Int64() // towards the lower one, since what it is over is above 0
}

func product(a, b int64) *big.Int {
	return new(big.Int).Mul(big.NewInt(a), big.NewInt(b))
}

// joined tells the chapter's Sum; false, if one is too far off.
func joined(a, b api.Point) (api.Point, bool) {
	x, y := new(big.Int).Add(big.NewInt(a.X), big.NewInt(b.X)), new(big.Int).Add(big.NewInt(a.Y), big.NewInt(b.Y))
	for _, v := range []*big.Int{big.NewInt(a.X), big.NewInt(a.Y), big.NewInt(b.X), big.NewInt(b.Y), x, y} {
		if v.CmpAbs(big.NewInt(farthest)) > 0 {
			return api.Point{}, false
		}
	}
	return api.Point{X: x.Int64(), Y: y.Int64()}, true
}

// isRight holds an answer against the place that is promised, without an error.
func isRight(t *testing.T, what string, of any, p api.Point, err error, want api.Point) {
	t.Helper()
	if err != nil || p != want {
		t.Errorf("%s%v: %v, %v instead of %v", what, of, p, err, want)
	}
}

// isWrong holds an answer against what is promised beside an error: no place, and a fault of this package with that number.
func isWrong(t *testing.T, what string, of any, p api.Point, err error, want api.Errno) {
	t.Helper()
	if p != (api.Point{}) {
		t.Errorf("%s%v: %v beside an error", what, of, p)
	}
	if _, ok := err.(*fault.Fault); !ok {
		t.Errorf("%s%v: %v, %T is no fault", what, of, err, err)
		return
	}
	var n api.Errno
	if !errors.As(err, &n) || n != want || !errors.Is(err, want) {
		t.Errorf("%s%v: %v instead of %v", what, of, err, want)
	}
	if fault.Code(err) != want || !fault.Is(err, want) {
		t.Errorf("%s%v: number %d", what, of, fault.Code(err))
	}
	if ops := fault.Ops(err); len(ops) == 0 || ops[0] != "dead" {
		t.Errorf("%s%v: ops %q", what, of, ops)
	}
}

func move(l leg) (api.Point, error) {
	return dead.Move(l.heading, l.ahead, l.right, l.millis)
}

func moveIs(t *testing.T, l leg, x, y int64) {
	t.Helper()
	p, err := move(l)
	isRight(t, "P15.1: Move", l, p, err, api.Point{X: x, Y: y})
}

// moveHolds holds a leg that may be against the chapter's words.
func moveHolds(t *testing.T, l leg) {
	t.Helper()
	p, err := move(l)
	isRight(t, "P15.1: Move", l, p, err, moved(l))
}

func moveFails(t *testing.T, l leg) {
	t.Helper()
	p, err := move(l)
	isWrong(t, "P15.1: Move", l, p, err, 27)
}

func sumIs(t *testing.T, a, b, want api.Point) {
	t.Helper()
	p, err := dead.Sum(a, b)
	isRight(t, "P15.1: Sum", []api.Point{a, b}, p, err, want)
}

func sumFails(t *testing.T, a, b api.Point) {
	t.Helper()
	p, err := dead.Sum(a, b)
	isWrong(t, "P15.1: Sum", []api.Point{a, b}, p, err, 21)
}

// sumHolds holds two places, whatever they are, against the chapter's words.
func sumHolds(t *testing.T, a, b api.Point) {
	t.Helper()
	if want, ok := joined(a, b); ok {
		sumIs(t, a, b, want)
		return
	}
	sumFails(t, a, b)
}
