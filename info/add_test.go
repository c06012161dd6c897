package info_test

import (
	"testing"

	"leadline/api"
	"leadline/info"
)

// added tells the chapter's Add of what may be added.
func added(s api.State, slot int, p api.Point, sure int64) api.State {
	n := s.M.N
	more := api.State{Row: s.Row}
	more.Row[slot] = n
	more.M = laid(n+2, func(i, j int) int64 {
		switch {
		case j < n:
			return s.M.A[index(n, i, j)]
		case i == j:
			return sure
		}
		return 0
	})
	more.V = append(append(more.V, s.V...), sure*p.X, sure*p.Y)
	return more
}

// TestAddKnown: beacons that are put in, written down.
func TestAddKnown(t *testing.T) {
	s := known(2, []int64{7, -2, 9}, []int64{70, 90}, -1, -1, -1)
	s = addIs(t, s, 1, at(100, -200), 3, known(4, []int64{7, -2, 0, 0, 9, 0, 0, 3, 0, 3}, []int64{70, 90, 300, -600}, -1, 2, -1))
	s = addIs(t, s, 0, at(-5, 0), 1, known(6, []int64{7, -2, 0, 0, 0, 0, 9, 0, 0, 0, 0, 3, 0, 0, 0, 3, 0, 0, 1, 0, 1}, []int64{70, 90, 300, -600, -5, 0}, 4, 2, -1))
	addFails(t, s, 0, at(0, 0), 1, api.ErrThere)
	addFails(t, s, 1, at(0, 0), 1, api.ErrThere)
	s = addIs(t, s, 2, at(8, 9), 10, known(8, []int64{7, -2, 0, 0, 0, 0, 0, 0, 9, 0, 0, 0, 0, 0, 0, 3, 0, 0, 0, 0, 0, 3, 0, 0, 0, 0, 1, 0, 0, 0, 1, 0, 0, 10, 0, 10}, []int64{70, 90, 300, -600, -5, 0, 80, 90}, 4, 2, 6))
	for slot := range slots {
		addFails(t, s, slot, at(0, 0), 1, api.ErrThere)
	}
	placeIs(t, s, 0, at(-5, 0))
	placeIs(t, s, 1, at(100, -200))
	placeIs(t, s, 2, at(8, 9))
}

// TestAdd: to states of no beacon up to two, in each order, at each slot: all places that may be, so surely.
func TestAdd(t *testing.T) {
	d := thrown(4)
	for _, rows := range orders() {
		n := sizeOf(rows)
		for _, s := range []api.State{spread(rows, 5), {M: heavy(d, n, edge), V: vector(d, n, top), Row: rows}, placed(even(n, 0), make([]int64, n), rows), {M: even(n, -edge), V: vector(d, n, top), Row: rows}} {
			for slot, row := range rows {
				if row != -1 {
					continue
				}
				for _, x := range spots() {
					for _, sure := range sures() {
						for _, p := range []api.Point{at(x, 77), at(-3, x)} {
							got := addIs(t, s, slot, p, sure, added(s, slot, p, sure))
							if !info.Right(got) {
								t.Errorf("P18.2: Add(%v, %d, %v, %d): %v isn't right", s, slot, p, sure, got)
							}
						}
					}
				}
			}
		}
	}
}

// TestAddPlace: a beacon that was put in is where it was told to be; all others are where they were.
func TestAddPlace(t *testing.T) {
	d := thrown(5)
	for range 120 {
		rows := orders()[d.IntN(10)]
		n := sizeOf(rows)
		s := api.State{M: heavy(d, n, 1<<25), V: vector(d, n, 1<<46), Row: rows}
		mean, number := meant(s)
		if number != 0 {
			t.Fatalf("P18.2: %v has no mean", s)
		}
		for slot, row := range rows {
			if row != -1 {
				continue
			}
			p := at(upTo(d, farthest), upTo(d, farthest))
			more, err := info.Add(s, slot, p, 1+d.Int64N(surest))
			if err != nil {
				t.Errorf("P18.2: Add(%v, %d, %v): %v", s, slot, p, err)
				continue
			}
			meanIs(t, more, append(append([]int64(nil), mean...), p.X, p.Y)...)
			placeIs(t, more, slot, p)
			meanHolds(t, more)
		}
	}
}

// TestAddThere: a slot where a beacon is, also where a measure may not be, or a matrix is loose.
func TestAddThere(t *testing.T) {
	for _, rows := range orders() {
		for _, sure := range []int64{0, 5, edge} {
			s := placed(even(sizeOf(rows), sure), make([]int64, sizeOf(rows)), rows)
			for slot, row := range rows {
				if row == -1 {
					continue
				}
				addFails(t, s, slot, at(5, 7), 9, 37)
				addFails(t, s, slot, at(5, 7), 0, 37)
				addFails(t, s, slot, at(farthest+1, 7), 9, 37)
				addFails(t, s, slot, at(0, -farthest-1), surest+1, 37)
			}
		}
	}
}

// TestAddUnits: a coordinate, or how sure, one past the end and farther; two of them, and all three.
func TestAddUnits(t *testing.T) {
	for _, rows := range orders() {
		for _, s := range []api.State{spread(rows, 5), placed(even(sizeOf(rows), 0), make([]int64, sizeOf(rows)), rows)} {
			for slot, row := range rows {
				if row != -1 {
					continue
				}
				for _, v := range outside(-farthest, farthest) {
					addFails(t, s, slot, at(v, 5), 1, 27)
					addFails(t, s, slot, at(farthest, v), surest, 27)
					addFails(t, s, slot, at(v, v), 7, 27)
					addFails(t, s, slot, at(v, 0), 0, 27)
				}
				for _, sure := range outside(1, surest) {
					addFails(t, s, slot, at(0, 0), sure, 27)
					addFails(t, s, slot, at(farthest, -farthest), sure, 27)
					addFails(t, s, slot, at(0, farthest+1), sure, 27)
				}
			}
		}
	}
}
