package info

import (
	"slices"

	"leadline/api"
	"leadline/fault"
	"leadline/fx"
	"leadline/sym"
	"leadline/wide"
)

const (
	nobody  = -1 // the Row of a slot where no beacon is
	vehicle = -1 // the vehicle's slot, for who asks where it is; its rows are 0 and 1
)

// How sure a place may be told to be, how much a range may weigh, how wide the gate may be.
const (
	surest   = 1 << 20
	heaviest = 1 << 12
	widest   = 1 << 12
)

// paired tells whether the rows of those slots where a beacon is are 2, 4 .. up to the last two of n, each once.
func paired(rows [api.MaxBeacons]int, n int) bool {
	slices.Sort(rows[:]) // rows is a copy: the state's stay in the order of slots
	next := 2
	for _, row := range rows {
		if row == nobody {
			continue
		}
		if row != next {
			return false
		}
		next += 2
	}
	return next == n
}

// fit tells whether the amount of each number is at most MaxVector.
func fit(v []int64) bool {
	return !slices.ContainsFunc(v, func(n int64) bool { return !upTo(n, api.MaxVector) })
}

// placeable tells whether a place may be told so surely.
func placeable(p api.Point, sure int64) bool {
	return within(sure, 1, surest) && upTo(p.X, api.MaxPlace) && upTo(p.Y, api.MaxPlace)
}

// rowOf tells the first of the two rows of the beacon in that slot; ErrSize of an s that isn't right, ErrRange of no such slot, ErrNone, if no beacon is there.
func rowOf(s api.State, slot int) (int, error) {
	if !Right(s) {
		return 0, wrong(api.ErrSize)
	}
	if slot < 0 || slot >= api.MaxBeacons {
		return 0, wrong(api.ErrRange)
	}
	if s.Row[slot] == nobody {
		return 0, wrong(api.ErrNone)
	}
	return s.Row[slot], nil
}

// behind tells s with two rows more, those of something whose place is p, so surely; no Row names them yet. There is room for them: who asks has a slot left, and has held p and sure to their limits.
func behind(s api.State, p api.Point, sure int64) api.State {
	row := s.M.N
	m, _ := sym.Grow(s.M, 2)
	m, _ = sym.Set(m, row, row, sure)
	m, _ = sym.Set(m, row+1, row+1, sure)
	v := append([]int64(nil), s.V...)
	return api.State{M: m, V: append(v, sure*p.X, sure*p.Y), Row: s.Row}
}

// place tells the two numbers from row on.
func place(mean []int64, row int) api.Point {
	return api.Point{X: mean[row], Y: mean[row+1]}
}

// product tells what h times the places should be by a range that is off by that: as much as by the mean, and off, Unit being one.
func product(h, mean []int64, off int64) api.Wide {
	sum := times(wide.Of(off), api.Unit)
	for i, v := range mean {
		sum = plus(sum, times(wide.Of(v), h[i]))
	}
	return sum
}

// drawn tells v, each number of which is more by h's times by; false (nothing), if one is too great then.
func drawn(v, h []int64, by api.Wide) ([]int64, bool) {
	more := append([]int64(nil), v...)
	for i := range more {
		number, ok := wide.Int64(plus(wide.Of(v[i]), times(by, h[i])))
		if !ok || !upTo(number, api.MaxVector) {
			return nil, false
		}
		more[i] = number
	}
	return more, true
}

// plus tells a and b together. (Here and in times there is room: nothing that is asked for has 256 bits.)
func plus(a, b api.Wide) api.Wide {
	sum, _ := wide.Add(a, b)
	return sum
}

// times tells a, v times.
func times(a api.Wide, v int64) api.Wide {
	result, _ := wide.Mul(a, wide.Of(v))
	return result
}

// upTo tells whether v's amount is at most that.
func upTo(v, most int64) bool {
	amount, ok := fx.Amount(v)
	return ok && amount <= most
}

// within tells whether v is from least to most.
func within(v, least, most int64) bool {
	return least <= v && v <= most
}

// wrong tells the fault of that error.
func wrong(err error) error {
	return fault.Wrap("info", err)
}
