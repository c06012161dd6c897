package sparse_test

import (
	"math"
	"testing"

	"leadline/api"
)

// TestLinkKnown holds Link against sums that are written down: of the vehicle's rows and that beacon's columns, nothing else.
func TestLinkKnown(t *testing.T) {
	s := known(4, []int64{100, 50, 1, -20, 200, 300, -4000, 300, 60, 400}, []int64{9, 8, 7, 6}, -1, 2, -1)
	linkIs(t, s, 1, 4321)
	linkFails(t, s, 0, api.ErrNone)
	linkFails(t, s, 2, 36)
	s = known(8, []int64{
		100, 50, 1, -2, 30, 40, -500, 600,
		100, 3, 4, -50, 60, 700, -800,
		100, 7, 7, 7, 7, 7,
		100, 7, 7, 7, 7,
		100, 7, 7, 7,
		100, 7, 7,
		100, 7,
		100}, make([]int64, 8), 6, 2, 4)
	linkIs(t, s, 0, 2600)
	linkIs(t, s, 1, 10)
	linkIs(t, s, 2, 180)
	weakestIs(t, s, 1)
	s.Row = [slots]int{4, 6, 2}
	linkIs(t, s, 0, 180)
	linkIs(t, s, 1, 2600)
	linkIs(t, s, 2, 10)
	weakestIs(t, s, 2)
}

// TestLinkOrdinary: states of no beacon up to all of them, their rows in each order, linked in each way.
func TestLinkOrdinary(t *testing.T) {
	for _, rows := range orders() {
		for _, s := range links(rows) {
			for slot := -1; slot <= slots; slot++ {
				linkHolds(t, s, slot)
			}
			weakestIs(t, s, weakestOf(s))
		}
	}
}

// TestLinkOfOneEntry: one entry alone is not nought, each of the four, of each beacon, above nought and below it.
func TestLinkOfOneEntry(t *testing.T) {
	for _, rows := range orders() {
		for _, slot := range beacons(rows) {
			for p := range 2 {
				for q := range 2 {
					for _, v := range []int64{1, -1, 2, -3, 77777, -77777, edge - 1, 1 - edge, edge, -edge} {
						s := with(spread(rows, 5), p, rows[slot]+q, v)
						for _, other := range beacons(rows) {
							linkIs(t, s, other, map[bool]int64{true: max(v, -v)}[other == slot])
						}
						weakestIs(t, s, slot)
					}
				}
			}
		}
	}
}

// TestLinkOfNothingElse: what stands elsewhere is no link: the vehicle's own entries, the beacons' own, what links them to one another, V.
func TestLinkOfNothingElse(t *testing.T) {
	for _, rows := range orders() {
		n := sizeOf(rows)
		m := laid(n, func(i, j int) int64 {
			if i < 2 && j >= 2 {
				return 0
			}
			return edge
		})
		s := api.State{M: m, V: vector(thrown(1), n, top), Row: rows}
		for _, slot := range beacons(rows) {
			linkIs(t, s, slot, 0)
			linkIs(t, linked(s, rows[slot], [2][2]int64{{1, 2}, {-4, -8}}), slot, 15)
		}
		weakestIs(t, s, -1)
	}
}

// TestLinkGreatest: a link whose amounts are at MaxEntry, of all signs: 2 to the 32.
func TestLinkGreatest(t *testing.T) {
	for _, rows := range orders() {
		for _, slot := range beacons(rows) {
			for which := range 16 {
				var l [2][2]int64
				for i := range 4 {
					l[i/2][i%2] = edge * int64(1-which>>i&1*2)
				}
				s := linked(spread(rows, 5), rows[slot], l)
				linkIs(t, s, slot, 1<<32)
				weakestIs(t, s, slot)
				l[which/8][which%2] = 0
				linkIs(t, linked(s, rows[slot], l), slot, 3<<30)
			}
		}
	}
}

// TestLinkSlots: what is no slot, and slots where no beacon is.
func TestLinkSlots(t *testing.T) {
	for _, rows := range orders() {
		n := sizeOf(rows)
		for _, s := range []api.State{spread(rows, 5), links(rows)[3], {M: even(n, -edge), V: make([]int64, n), Row: rows}} {
			for _, slot := range slotless() {
				linkFails(t, s, slot, api.ErrRange)
			}
			linkFails(t, s, -1, 20)
			linkFails(t, s, 3, 20)
			for slot, row := range rows {
				if row == -1 {
					linkFails(t, s, slot, api.ErrNone)
				}
			}
		}
	}
}

// TestLinkNotRight: states that aren't right, of all slots, and what is none.
func TestLinkNotRight(t *testing.T) {
	for _, s := range wrongs() {
		for _, slot := range []int{0, 1, 2, -1, slots, math.MaxInt, math.MinInt} {
			linkFails(t, s, slot, api.ErrSize)
		}
		weakestIs(t, s, -1)
	}
	if s := with(links([slots]int{2, 4, 6})[3], 0, 0, edge+1); weakestOf(s) != -1 {
		t.Errorf("P20.1: %v is right", s)
	}
}

// chained tells a state with these rows, and for each beacon's slot a link of that amount.
func chained(rows [slots]int, amounts [slots]int64) api.State {
	s := spread(rows, edge)
	for _, slot := range beacons(rows) {
		v := amounts[slot]
		s = linked(s, rows[slot], [2][2]int64{{v / 4, -(v + 1) / 4}, {-(v + 2) / 4, (v + 3) / 4}})
	}
	return s
}

// TestWeakest: links of all sorts: one that is least in each slot, equal ones of the lowest slot and of later ones, such of which the least is 0, all 0.
func TestWeakest(t *testing.T) {
	amounts := []int64{0, 1, 2, 5, 6, 1 << 31, 1<<32 - 1, 1 << 32}
	for _, rows := range orders() {
		for _, a := range amounts {
			for _, b := range amounts {
				for _, c := range amounts {
					s := chained(rows, [slots]int64{a, b, c})
					weakestIs(t, s, weakestOf(s))
				}
			}
		}
	}
	for _, rows := range [][slots]int{{2, 4, 6}, {6, 4, 2}, {4, 6, 2}, {2, 6, 4}} {
		for _, x := range []struct {
			amounts [slots]int64
			want    int
		}{
			{[slots]int64{1, 2, 3}, 0}, {[slots]int64{2, 1, 3}, 1}, {[slots]int64{3, 2, 1}, 2}, {[slots]int64{5, 5, 5}, 0}, {[slots]int64{5, 5, 6}, 0},
			{[slots]int64{6, 5, 5}, 1}, {[slots]int64{5, 6, 5}, 0}, {[slots]int64{0, 5, 5}, 1}, {[slots]int64{0, 6, 5}, 2}, {[slots]int64{5, 0, 5}, 0}, {[slots]int64{6, 0, 5}, 2},
			{[slots]int64{6, 5, 0}, 1}, {[slots]int64{0, 0, 5}, 2}, {[slots]int64{0, 5, 0}, 1}, {[slots]int64{5, 0, 0}, 0}, {[slots]int64{0, 0, 0}, -1},
			{[slots]int64{1 << 32, 1 << 32, 1 << 32}, 0}, {[slots]int64{1 << 32, 1<<32 - 1, 0}, 1}, {[slots]int64{1 << 32, 0, 0}, 0}, {[slots]int64{0, 0, 1 << 32}, 2},
		} {
			weakestIs(t, chained(rows, x.amounts), x.want)
		}
	}
	weakestIs(t, chained([slots]int{-1, 2, 4}, [slots]int64{0, 7, 7}), 1)
	weakestIs(t, chained([slots]int{-1, 4, 2}, [slots]int64{0, 8, 7}), 2)
	weakestIs(t, chained([slots]int{2, -1, 4}, [slots]int64{8, 0, 7}), 2)
	weakestIs(t, chained([slots]int{-1, -1, 2}, [slots]int64{0, 0, 7}), 2)
	weakestIs(t, spread([slots]int{-1, -1, -1}, 5), -1)
	weakestIs(t, api.State{}, -1)
}

// TestLinkByChance: states of all sizes by chance, definite or not.
func TestLinkByChance(t *testing.T) {
	d, found := thrown(2), [slots]int{}
	for range 4000 {
		rows := orders()[d.IntN(len(orders()))]
		n, most := sizeOf(rows), int64(1)<<d.IntN(31)
		s := api.State{M: laid(n, func(i, j int) int64 { return upTo(d, most) }), V: vector(d, n, top), Row: rows}
		linkHolds(t, s, d.IntN(slots+2)-1)
		want := weakestOf(s)
		weakestIs(t, s, want)
		if want != -1 {
			found[want]++
		}
	}
	for slot, many := range found {
		if many < 200 {
			t.Errorf("P20.1: slot %d is the weakest %d times", slot, many)
		}
	}
}
