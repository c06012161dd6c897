package sparse_test

import (
	"errors"
	"math"
	"math/rand/v2"
	"slices"
	"testing"

	"leadline/api"
	"leadline/fault"
	"leadline/sparse"
)

// By the chapter and the limits.
const (
	edge  = 1 << 30 // the greatest amount of an entry
	top   = 1 << 56 // the greatest amount of a vector's number
	slots = 3
)

// free: a least that keeps nothing out.
const free = math.MinInt64

// known tells the state of n rows with these entries, numbers and beacons' rows.
func known(n int, a, v []int64, rows ...int) api.State {
	s := api.State{M: api.Sym{N: n, A: a}, V: v}
	copy(s.Row[:], rows)
	return s
}

// index tells where the entry (i, j) of n rows is, either way round.
func index(n, i, j int) int {
	i, j = min(i, j), max(i, j)
	return i*n - i*(i-1)/2 + j - i
}

// laid tells n rows whose entries entry tells.
func laid(n int, entry func(i, j int) int64) api.Sym {
	m := api.Sym{N: n}
	for i := range n {
		for j := i; j < n; j++ {
			m.A = append(m.A, entry(i, j))
		}
	}
	return m
}

// even tells n rows with v on the diagonal, noughts beside it.
func even(n int, v int64) api.Sym {
	return laid(n, func(i, j int) int64 {
		if i != j {
			return 0
		}
		return v
	})
}

// placed tells the state with m whose mean is just x: V is m times x; sums that an int64 hasn't aren't asked for.
func placed(m api.Sym, x []int64, rows [slots]int) api.State {
	s := api.State{M: m, V: make([]int64, m.N), Row: rows}
	for i := range m.N {
		for j := range m.N {
			s.V[i] += m.A[index(m.N, i, j)] * x[j]
		}
	}
	return s
}

// copied tells the same state in other memory.
func copied(s api.State) api.State {
	s.M.A, s.V = slices.Clone(s.M.A), slices.Clone(s.V)
	return s
}

// with tells s with v at the matrix's entry (i, j).
func with(s api.State, i, j int, v int64) api.State {
	s = copied(s)
	s.M.A[index(s.M.N, i, j)] = v
	return s
}

// told tells s with v as V's number i.
func told(s api.State, i int, v int64) api.State {
	s = copied(s)
	s.V[i] = v
	return s
}

// linked tells s with these entries as the link of the beacon whose first row that is.
func linked(s api.State, row int, link [2][2]int64) api.State {
	s = copied(s)
	for p := range 2 {
		for q := range 2 {
			s.M.A[index(s.M.N, p, row+q)] = link[p][q]
		}
	}
	return s
}

// same tells whether two states are the same.
func same(a, b api.State) bool {
	return a.M.N == b.M.N && slices.Equal(a.M.A, b.M.A) && slices.Equal(a.V, b.V) && a.Row == b.Row
}

// nothing tells whether that is what stands beside an error.
func nothing(s api.State) bool {
	return s.M.N == 0 && len(s.M.A) == 0 && len(s.V) == 0 && s.Row == [slots]int{}
}

// orders tells all ways in which beacons may stand in the slots: none, one, two, all of them, their rows in each order.
func orders() [][slots]int {
	l := [][slots]int{{-1, -1, -1}}
	for i := range slots {
		one := [slots]int{-1, -1, -1}
		one[i] = 2
		l = append(l, one)
		for j := range slots {
			if j == i {
				continue
			}
			two := one
			two[j] = 4
			l = append(l, two)
			three := two
			three[slots-i-j] = 6
			l = append(l, three)
		}
	}
	return l
}

// sizeOf tells how many numbers a state with these rows has.
func sizeOf(rows [slots]int) int {
	n := 2
	for _, row := range rows {
		if row != -1 {
			n += 2
		}
	}
	return n
}

// beacons tells the slots in which a beacon is.
func beacons(rows [slots]int) []int {
	var l []int
	for slot, row := range rows {
		if row != -1 {
			l = append(l, slot)
		}
	}
	return l
}

// slotless tells numbers of slots that there are none of.
func slotless() []int {
	return []int{-1, -2, -3, slots, slots + 1, 8, 16, 256, 256 + 1, -256, 1 << 31, 1<<32 - 1, 1 << 32, 1<<32 + 1, -1 << 31, -1 << 32, -1<<32 + 2, math.MinInt, math.MinInt + 1, math.MinInt + 2, math.MaxInt - 1, math.MaxInt}
}

// somewhere tells n numbers of a mean, each place another one, all of them some kilometres off one another.
func somewhere(n int) []int64 {
	return []int64{1000, -2000, -50000, 60000, 70000, 80000, 90000, -100000}[:n]
}

// spread tells a state with these rows: sure on the diagonal, nothing linked, all of it somewhere.
func spread(rows [slots]int, sure int64) api.State {
	n := sizeOf(rows)
	return placed(even(n, sure), somewhere(n), rows)
}

// links tells definite states with these rows: nothing linked; the vehicle to each beacon; beacons to one another; all to all; the first coordinates alone; the vehicle's own two; its second one to the last of all.
func links(rows [slots]int) []api.State {
	n := sizeOf(rows)
	var l []api.State
	for _, has := range []func(i, j int) bool{
		func(i, j int) bool { return false },
		func(i, j int) bool { return i < 2 && j >= 2 },
		func(i, j int) bool { return i >= 2 },
		func(i, j int) bool { return true },
		func(i, j int) bool { return (i+j)%2 == 0 },
		func(i, j int) bool { return j < 2 },
		func(i, j int) bool { return i == 1 && j == n-1 },
	} {
		m := laid(n, func(i, j int) int64 {
			if i == j {
				return int64(5000 + 77*i)
			}
			if !has(i, j) {
				return 0
			}
			return int64(300+13*i+5*j) * int64(1-(i+j)/2%2*2) // some of them below nought
		})
		l = append(l, placed(m, somewhere(n), rows))
	}
	return l
}

// thrown tells a source of numbers by chance, always the same ones of a seed.
func thrown(seed uint64) *rand.Rand {
	return rand.New(rand.NewPCG(seed, 20))
}

// upTo tells a number of an amount at most that by chance.
func upTo(d *rand.Rand, most int64) int64 {
	return d.Int64N(2*most+1) - most
}

// vector tells n numbers of an amount at most that by chance, the ends and nought among them.
func vector(d *rand.Rand, n int, most int64) []int64 {
	l := make([]int64, n)
	for i := range l {
		l[i] = upTo(d, most)
		if which := d.IntN(12); which < 3 {
			l[i] = []int64{most, -most, 0}[which]
		}
	}
	return l
}

// heavy tells a definite matrix: most on the diagonal, which is more than the amounts beside it in a row together.
func heavy(d *rand.Rand, n int, most int64) api.Sym {
	return laid(n, func(i, j int) int64 {
		if i != j {
			return upTo(d, most/int64(n))
		}
		return most
	})
}

// narrow tells a definite matrix whose determinant is 1: rows times themselves that have 1 on the diagonal, numbers by chance behind it, noughts ahead of it.
func narrow(d *rand.Rand, n int, most int64) api.Sym {
	rows := make([][]int64, n)
	for i := range rows {
		rows[i] = make([]int64, n)
		rows[i][i] = 1
		for j := i + 1; j < n; j++ {
			rows[i][j] = upTo(d, most)
		}
	}
	return laid(n, func(i, j int) int64 {
		var sum int64
		for r := range n {
			sum += rows[r][i] * rows[r][j]
		}
		return sum
	})
}

// isWrong holds an error against what is promised: a fault of this package in which that number is found.
func isWrong(t *testing.T, what string, err error, want api.Errno) {
	t.Helper()
	if _, ok := err.(*fault.Fault); !ok {
		t.Errorf("%s: %v, %T is no fault", what, err, err)
		return
	}
	var n api.Errno
	if !errors.As(err, &n) || n != want || !errors.Is(err, want) {
		t.Errorf("%s: %v instead of %v", what, err, want)
	}
	if fault.Code(err) != want || !fault.Is(err, want) {
		t.Errorf("%s: number %d", what, fault.Code(err))
	}
	if ops := fault.Ops(err); len(ops) == 0 || ops[0] != "sparse" {
		t.Errorf("%s: ops %q", what, ops)
	}
}

// stays holds a state that was handed in against what it was.
func stays(t *testing.T, what string, is, was api.State) {
	t.Helper()
	if !same(is, was) {
		t.Errorf("%s: what was handed in is %v instead of %v", what, is, was)
	}
}

// link tells what Link tells, and that what was handed in is as it was.
func link(t *testing.T, s api.State, slot int) (int64, error) {
	t.Helper()
	was := copied(s)
	got, err := sparse.Link(s, slot)
	stays(t, "P20.1: Link", s, was)
	return got, err
}

// linkIs holds Link against a number that is written down.
func linkIs(t *testing.T, s api.State, slot int, want int64) {
	t.Helper()
	if got, err := link(t, s, slot); err != nil || got != want {
		t.Errorf("P20.1: Link(%v, %d): %d, %v instead of %d", s, slot, got, err, want)
	}
}

// linkFails holds Link against that error, with nothing beside it.
func linkFails(t *testing.T, s api.State, slot int, want api.Errno) {
	t.Helper()
	got, err := link(t, s, slot)
	if got != 0 {
		t.Errorf("P20.1: Link(%v, %d): %d beside an error", s, slot, got)
	}
	isWrong(t, "P20.1: Link", err, want)
}

// weakestIs holds Weakest against a slot that is written down; -1: none.
func weakestIs(t *testing.T, s api.State, want int) {
	t.Helper()
	was := copied(s)
	got, ok := sparse.Weakest(s)
	stays(t, "P20.1: Weakest", s, was)
	if ok != (want != -1) || got != max(want, 0) {
		t.Errorf("P20.1: Weakest(%v): %d, %v instead of %d", s, got, ok, want)
	}
}

// asked: what Cut is told.
type asked struct {
	s     api.State
	slot  int
	least int64
}

// open tells s, a slot, and a least that keeps nothing out.
func open(s api.State, slot int) asked {
	return asked{s, slot, free}
}

// cut tells what Cut tells, and that what was handed in is as it was.
func cut(t *testing.T, a asked) (api.State, error) {
	t.Helper()
	was := copied(a.s)
	got, err := sparse.Cut(a.s, a.slot, a.least)
	stays(t, "P20.2: Cut", a.s, was)
	return got, err
}

// cuts tells what Cut tells, which is no error.
func cuts(t *testing.T, a asked) api.State {
	t.Helper()
	got, err := cut(t, a)
	if err != nil {
		t.Fatalf("P20.2: Cut(%v): %v", a, err)
	}
	return got
}

// cutIs holds Cut against a state that is written down.
func cutIs(t *testing.T, a asked, want api.State) {
	t.Helper()
	got, err := cut(t, a)
	if err != nil || !same(got, want) {
		t.Errorf("P20.2: Cut(%v): %v, %v instead of %v", a, got, err, want)
	}
}

// cutFails holds Cut against that error, with nothing beside it.
func cutFails(t *testing.T, a asked, want api.Errno) {
	t.Helper()
	got, err := cut(t, a)
	if !nothing(got) {
		t.Errorf("P20.2: Cut(%v): %v beside an error", a, got)
	}
	isWrong(t, "P20.2: Cut", err, want)
}
