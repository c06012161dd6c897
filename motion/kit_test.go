package motion_test

import (
	"errors"
	"math"
	"math/rand/v2"
	"slices"
	"testing"

	"leadline/api"
	"leadline/fault"
	"leadline/motion"
)

// By the chapter and the limits.
const (
	farthest = 4194304 // the greatest amount of a coordinate
	stiffest = 1048576
	edge     = 1 << 30 // the greatest amount of an entry
	top      = 1 << 56 // the greatest amount of a vector's number
	slots    = 3
)

// at tells a place, or a motion.
func at(x, y int64) api.Point {
	return api.Point{X: x, Y: y}
}

// known tells the state of n rows with these entries, numbers and beacons' rows.
func known(n int, a, v []int64, rows ...int) api.State {
	s := api.State{M: api.Sym{N: n, A: a}, V: v}
	copy(s.Row[:], rows)
	return s
}

// alone tells a vehicle without beacons.
func alone(x, xy, y, v, w int64) api.State {
	return known(2, []int64{x, xy, y}, []int64{v, w}, -1, -1, -1)
}

// index tells where the entry (i, j) of n rows is, either way round.
func index(n, i, j int) int {
	i, j = min(i, j), max(i, j)
	return i*n - i*(i-1)/2 + j - i
}

// laid tells n rows whose entries entry tells.
func laid(n int, entry func(i, j int) int64) api.Sym {
	m := api.Sym{N: n}
	for i := range n {
		for j := i; j < n; j++ {
			m.A = append(m.A, entry(i, j))
		}
	}
	return m
}

// even tells n rows with v on the diagonal, noughts beside it.
func even(n int, v int64) api.Sym {
	return laid(n, func(i, j int) int64 {
		if i != j {
			return 0
		}
		return v
	})
}

// placed tells the state with m whose mean is just x: V is m times x; sums that an int64 hasn't aren't asked for.
func placed(m api.Sym, x []int64, rows [slots]int) api.State {
	s := api.State{M: m, V: make([]int64, m.N), Row: rows}
	for i := range m.N {
		for j := range m.N {
			s.V[i] += m.A[index(m.N, i, j)] * x[j]
		}
	}
	return s
}

// copied tells the same state in other memory.
func copied(s api.State) api.State {
	s.M.A, s.V = slices.Clone(s.M.A), slices.Clone(s.V)
	return s
}

// with tells s with v at the matrix's entry (i, j).
func with(s api.State, i, j int, v int64) api.State {
	s = copied(s)
	s.M.A[index(s.M.N, i, j)] = v
	return s
}

// told tells s with v as V's number i.
func told(s api.State, i int, v int64) api.State {
	s = copied(s)
	s.V[i] = v
	return s
}

// same tells whether two states are the same.
func same(a, b api.State) bool {
	return a.M.N == b.M.N && slices.Equal(a.M.A, b.M.A) && slices.Equal(a.V, b.V) && a.Row == b.Row
}

// nothing tells whether that is what stands beside an error.
func nothing(s api.State) bool {
	return s.M.N == 0 && len(s.M.A) == 0 && len(s.V) == 0 && s.Row == [slots]int{}
}

// orders tells all ways in which beacons may stand in the slots: none, one, two, all of them, their rows in each order.
func orders() [][slots]int {
	l := [][slots]int{{-1, -1, -1}}
	for i := range slots {
		one := [slots]int{-1, -1, -1}
		one[i] = 2
		l = append(l, one)
		for j := range slots {
			if j == i {
				continue
			}
			two := one
			two[j] = 4
			l = append(l, two)
			three := two
			three[slots-i-j] = 6
			l = append(l, three)
		}
	}
	return l
}

// sizeOf tells how many numbers a state with these rows has.
func sizeOf(rows [slots]int) int {
	n := 2
	for _, row := range rows {
		if row != -1 {
			n += 2
		}
	}
	return n
}

// rowsOf tells rows of beacons of a state of n numbers.
func rowsOf(n int) [slots]int {
	rows := [slots]int{-1, -1, -1}
	for slot := range n/2 - 1 {
		rows[slot] = n - 2 - 2*slot
	}
	return rows
}

// spread tells a state with these rows: sure on the diagonal, each place another one, all of them some kilometres off one another.
func spread(rows [slots]int, sure int64) api.State {
	x := []int64{1000, -2000, -50000, 60000, 70000, 80000, 90000, -100000}
	n := sizeOf(rows)
	return placed(even(n, sure), x[:n], rows)
}

// thrown tells a source of numbers by chance, always the same ones of a seed.
func thrown(seed uint64) *rand.Rand {
	return rand.New(rand.NewPCG(seed, 19))
}

// upTo tells a number of an amount at most that by chance.
func upTo(d *rand.Rand, most int64) int64 {
	return d.Int64N(2*most+1) - most
}

// vector tells n numbers of an amount at most that by chance, the ends and nought among them.
func vector(d *rand.Rand, n int, most int64) []int64 {
	l := make([]int64, n)
	for i := range l {
		l[i] = upTo(d, most)
		if which := d.IntN(12); which < 3 {
			l[i] = []int64{most, -most, 0}[which]
		}
	}
	return l
}

// heavy tells a definite matrix: most on the diagonal, which is more than the amounts beside it in a row together.
func heavy(d *rand.Rand, n int, most int64) api.Sym {
	return laid(n, func(i, j int) int64 {
		if i != j {
			return upTo(d, most/int64(n))
		}
		return most
	})
}

// narrow tells a definite matrix whose determinant is 1: rows times themselves that have 1 on the diagonal, numbers by chance behind it, noughts ahead of it.
func narrow(d *rand.Rand, n int, most int64) api.Sym {
	rows := make([][]int64, n)
	for i := range rows {
		rows[i] = make([]int64, n)
		rows[i][i] = 1
		for j := i + 1; j < n; j++ {
			rows[i][j] = upTo(d, most)
		}
	}
	return laid(n, func(i, j int) int64 {
		var sum int64
		for r := range n {
			sum += rows[r][i] * rows[r][j]
		}
		return sum
	})
}

// outside tells numbers that aren't from least to most: those beside them, those whose lower bits look like one of them, the ends of the type.
func outside(least, most int64) []int64 {
	l := []int64{least - 1, least - 2, most + 1, most + 2, 2*most + 1, math.MinInt64, math.MinInt64 + 1, math.MinInt64 + most, math.MaxInt64 - most, math.MaxInt64 - 1, math.MaxInt64}
	for _, bit := range []int{24, 31, 32, 33, 48, 62} {
		l = append(l, 1<<bit, -1<<bit, 1<<bit+1, 1<<bit+most, -1<<bit-1, -1<<bit+most)
	}
	return l
}

// isWrong holds an error against what is promised: a fault of this package in which that number is found.
func isWrong(t *testing.T, what string, err error, want api.Errno) {
	t.Helper()
	if _, ok := err.(*fault.Fault); !ok {
		t.Errorf("%s: %v, %T is no fault", what, err, err)
		return
	}
	var n api.Errno
	if !errors.As(err, &n) || n != want || !errors.Is(err, want) {
		t.Errorf("%s: %v instead of %v", what, err, want)
	}
	if fault.Code(err) != want || !fault.Is(err, want) {
		t.Errorf("%s: number %d", what, fault.Code(err))
	}
	if ops := fault.Ops(err); len(ops) == 0 || ops[0] != "motion" {
		t.Errorf("%s: ops %q", what, ops)
	}
}

// stays holds a state that was handed in against what it was.
func stays(t *testing.T, is, was api.State) {
	t.Helper()
	if !same(is, was) {
		t.Errorf("P19.1: Predict: what was handed in is %v instead of %v", is, was)
	}
}

// asked: what Predict is told.
type asked struct {
	s           api.State
	u           api.Point
	stiff       int64
	least, most int64
}

// open tells s, a motion by u that is so stiff, and bounds that keep nothing out.
func open(s api.State, u api.Point, stiff int64) asked {
	return asked{s, u, stiff, math.MinInt64, math.MaxInt64}
}

// predict tells what Predict tells, and that what was handed in is as it was.
func predict(t *testing.T, a asked) (api.State, error) {
	t.Helper()
	was := copied(a.s)
	got, err := motion.Predict(a.s, a.u, a.stiff, a.least, a.most)
	stays(t, a.s, was)
	return got, err
}

// predicts tells what Predict tells, which is no error.
func predicts(t *testing.T, a asked) api.State {
	t.Helper()
	got, err := predict(t, a)
	if err != nil {
		t.Fatalf("P19.1: Predict(%v): %v", a, err)
	}
	return got
}

// predictIs holds Predict against a state that is written down.
func predictIs(t *testing.T, a asked, want api.State) {
	t.Helper()
	got, err := predict(t, a)
	if err != nil || !same(got, want) {
		t.Errorf("P19.1: Predict(%v): %v, %v instead of %v", a, got, err, want)
	}
}

// predictFails holds Predict against that error, with nothing beside it.
func predictFails(t *testing.T, a asked, want api.Errno) {
	t.Helper()
	got, err := predict(t, a)
	if !nothing(got) {
		t.Errorf("P19.1: Predict(%v): %v beside an error", a, got)
	}
	isWrong(t, "P19.1: Predict", err, want)
}
