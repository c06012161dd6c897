package info_test

import (
	"math"
	"math/rand/v2"
	"slices"
	"testing"

	"leadline/api"
	"leadline/info"
)

// matrixOf tells a matrix of n rows by chance: mostly definite, now and then nearly too great or loose.
func matrixOf(d *rand.Rand, n int) api.Sym {
	switch d.IntN(8) {
	case 0:
		return narrow(d, n, []int64{2, 50, 9000}[d.IntN(3)])
	case 1:
		m := heavy(d, n, edge/2)
		m.A[index(n, 0, 0)] = edge - d.Int64N(1<<(10+d.IntN(20)))
		return m
	case 2:
		return laid(n, func(i, j int) int64 { return upTo(d, 1<<(1+d.IntN(30))) })
	}
	return heavy(d, n, 1+d.Int64N(1<<(1+d.IntN(29))))
}

// placesOf tells n numbers of places by chance: mostly such as a line is between, now and then too near, too far, far beyond.
func placesOf(d *rand.Rand, n int) []int64 {
	x := vector(d, n, []int64{2000, 100000, 1 << 20, farthest, farthest + 2}[d.IntN(5)])
	if d.IntN(6) == 0 {
		copy(x[2:], x[:2])
	}
	if d.IntN(8) == 0 {
		x[d.IntN(n)] = upTo(d, 1<<26)
	}
	return x
}

// byChance tells something to ask Fuse by chance: what is wrong with it, if anything, is so by chance too.
func byChance(d *rand.Rand) asked {
	rows := orders()[d.IntN(len(orders()))]
	n := sizeOf(rows)
	a := asked{s: placed(matrixOf(d, n), placesOf(d, n), rows), c: config(1+d.Int64N(1<<(1+d.IntN(12))), 1+d.Int64N(1<<(1+d.IntN(12))), math.MinInt64, math.MaxInt64), slot: d.IntN(slots)}
	for i := range a.s.V {
		if a.s.V[i] = min(max(a.s.V[i], -top), top); d.IntN(3) == 0 {
			a.s.V[i] = min(max(a.s.V[i]+upTo(d, 1<<d.IntN(20)), -top), top)
		}
	}
	switch d.IntN(20) {
	case 0:
		a.c.Weight = upTo(d, 2*heaviest)
	case 1:
		a.c.Gamma = upTo(d, 2*widest)
	case 2:
		a.slot = d.IntN(7) - 2
	case 3:
		a.s.V[d.IntN(n)] = []int64{top, -top, top + 1, -top - 1}[d.IntN(4)]
	}
	a.r = d.Int64N(longest + 1)
	if mean, number := meant(a.s); number == 0 && d.IntN(10) != 0 && a.slot >= 0 && a.slot < slots && a.s.Row[a.slot] != -1 {
		if _, r, number := row(mean, a.s.Row[a.slot]); number == 0 {
			a.r = r + upTo(d, 1<<d.IntN(12))
		}
	}
	if d.IntN(3) == 0 {
		a.c.Least, a.c.Most = upTo(d, 1<<d.IntN(33)), upTo(d, 1<<d.IntN(33))
	}
	return a
}

// TestFuseByChance: all sorts of states, configurations, slots and ranges by chance against the chapter's words: each error is told often, and so is a state.
func TestFuseByChance(t *testing.T) {
	d, numbers := thrown(8), map[api.Errno]int{}
	for range 1500 {
		numbers[fuseHolds(t, byChance(d))]++
	}
	for _, number := range []api.Errno{0, 20, 21, 23, 27, 30, 31, 32, 33, 36} {
		if numbers[number] < 8 {
			t.Errorf("P18.3: %d times %v", numbers[number], number)
		}
	}
}

// TestManyRanges: ranges one behind another, to all beacons, each against the chapter's words.
func TestManyRanges(t *testing.T) {
	d, taken := thrown(9), 0
	for range 8 {
		s, err := info.New(at(upTo(d, 100000), upTo(d, 100000)), 1+d.Int64N(1<<(1+d.IntN(20))))
		if err != nil {
			t.Fatalf("P18.1: New: %v", err)
		}
		for _, slot := range d.Perm(slots) {
			p, sure := at(upTo(d, 300000), upTo(d, 300000)), 1+d.Int64N(1<<(1+d.IntN(20)))
			s = addIs(t, s, slot, p, sure, added(s, slot, p, sure))
		}
		for range 25 {
			a := asked{s, config(1+d.Int64N(200), 1+d.Int64N(60), 1, edge/2), d.IntN(slots), 0}
			mean, number := meant(s)
			if number != 0 {
				t.Fatalf("P18.2: %v has no mean: %v", s, number)
			}
			_, r, number := row(mean, s.Row[a.slot])
			if number != 0 {
				continue
			}
			a.r = max(r+upTo(d, 2+lastOff(t, s, a.slot, a.c)), 0)
			if fuseHolds(t, a) == 0 {
				s = fuses(t, a)
				taken++
			}
		}
		meanHolds(t, s)
	}
	if taken < 40 {
		t.Errorf("P18.3: %d ranges were taken", taken)
	}
}

// odd tells a number of any kind: small ones, ends of limits and types.
func odd(d *rand.Rand) int64 {
	l := []int64{math.MinInt64, math.MinInt64 + 1, -top, -edge, -farthest, -2, -1, 0, 1, 2, 4, 6, farthest, edge, top, top + 1, math.MaxInt64 - 1, math.MaxInt64}
	if d.IntN(3) == 0 {
		return int64(d.Uint64()) >> d.IntN(64)
	}
	return l[d.IntN(len(l))]
}

// odds tells up to most such numbers.
func odds(d *rand.Rand, most int) []int64 {
	var l []int64
	for range d.IntN(most + 1) {
		l = append(l, odd(d))
	}
	return l
}

// TestAnything: whatever is asked, each call answers, by the chapter's words.
func TestAnything(t *testing.T) {
	d := thrown(10)
	for range 8000 {
		s := api.State{M: api.Sym{N: int(odd(d)), A: odds(d, 40)}, V: odds(d, 9)}
		for i := range s.Row {
			s.Row[i] = int(odd(d))
		}
		if d.IntN(2) == 0 {
			s.Row = orders()[d.IntN(len(orders()))]
			n := sizeOf(s.Row)
			s.M, s.V = laid(n, func(i, j int) int64 { return odd(d) % (edge + 2) }), odds(d, n)
			s.V = append(s.V, make([]int64, n-len(s.V))...)
		}
		if info.Right(s) != isRight(s) {
			t.Errorf("P18.1: Right(%v): %v", s, !isRight(s))
		}
		meanHolds(t, s)
		slot := int(odd(d))
		fuseHolds(t, asked{s, config(odd(d), odd(d), odd(d), odd(d)), slot, odd(d)})
		p, sure := at(odd(d), odd(d)), odd(d)
		if got, err := info.Add(s, slot, p, sure); err == nil {
			isState(t, "P18.2: Add", got, nil, added(s, slot, p, sure))
		} else if !nothing(got) {
			t.Errorf("P18.2: Add: %v beside an error", got)
		}
		if got, err := info.New(p, sure); (err == nil) != (sure >= 1 && sure <= surest && !greater(p.X, farthest) && !greater(p.Y, farthest)) {
			t.Errorf("P18.1: New(%v, %d): %v, %v", p, sure, got, err)
		}
	}
	fuseFails(t, asked{}, 23)
	if slices.ContainsFunc(orders(), func(rows [slots]int) bool { return !info.Right(spread(rows, 1)) }) {
		t.Errorf("P18.1: Right: false")
	}
}
