package info_test

import (
	"testing"

	"leadline/api"
	"leadline/info"
)

// spots tells coordinates that may be: the ends, those beside them, nought, some between.
func spots() []int64 {
	return []int64{-farthest, 1 - farthest, -1234567, -1, 0, 1, 1000, farthest - 1, farthest}
}

// sures tells how sure a place may be told.
func sures() []int64 {
	return []int64{1, 2, 3, 999, surest / 2, surest - 1, surest}
}

// newFails holds New against ErrUnits, with nothing beside it.
func newFails(t *testing.T, start api.Point, sure int64) {
	t.Helper()
	got, err := info.New(start, sure)
	noState(t, "P18.1: New", got, err, api.ErrUnits)
}

// TestNew: all places that may be, so surely: sure on the diagonal, sure times the place, no beacon; where it is is where it was told to be.
func TestNew(t *testing.T) {
	for _, x := range spots() {
		for _, y := range spots() {
			for _, sure := range sures() {
				s, err := info.New(at(x, y), sure)
				isState(t, "P18.1: New", s, err, known(2, []int64{sure, 0, sure}, []int64{sure * x, sure * y}, -1, -1, -1))
				if !info.Right(s) {
					t.Errorf("P18.1: New(%d, %d, %d): %v isn't right", x, y, sure, s)
				}
				meanIs(t, s, x, y)
				placeIs(t, s, -1, at(x, y))
				placeFails(t, s, 0, 36)
				placeFails(t, s, 2, 36)
			}
		}
	}
	s, err := info.New(at(3000, -4000), 7)
	isState(t, "P18.1: New", s, err, known(2, []int64{7, 0, 7}, []int64{21000, -28000}, -1, -1, -1))
}

// TestNewUnits: a coordinate, or how sure, one past the end and farther; two of them, and all three.
func TestNewUnits(t *testing.T) {
	for _, v := range outside(-farthest, farthest) {
		for _, w := range []int64{-farthest, 0, 1, farthest} {
			for _, sure := range []int64{1, 7, surest} {
				newFails(t, at(v, w), sure)
				newFails(t, at(w, v), sure)
			}
		}
		for _, w := range outside(-farthest, farthest) {
			newFails(t, at(v, w), 7)
		}
		for _, sure := range outside(1, surest) {
			newFails(t, at(v, 5), sure)
			newFails(t, at(5, v), sure)
			newFails(t, at(v, v), sure)
		}
	}
	for _, sure := range outside(1, surest) {
		for _, x := range spots() {
			newFails(t, at(x, 0), sure)
			newFails(t, at(0, x), sure)
		}
	}
	newFails(t, at(0, 0), 0)
	newFails(t, at(0, 0), -1)
	newFails(t, at(0, 0), 1048577)
	newFails(t, at(4194305, 0), 1)
	newFails(t, at(0, -4194305), 1)
}
