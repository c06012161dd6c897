package line_test

import (
	"math"
	"slices"
	"testing"

	"leadline/api"
)

// TestRowKnown: all rows that there are, written down; those that begin at an odd number among them.
func TestRowKnown(t *testing.T) {
	h := [2]int64{154, -205}
	rowIs(t, asked{4, 2, h}, 154, -205, -154, 205)
	rowIs(t, asked{5, 2, h}, 154, -205, -154, 205, 0)
	rowIs(t, asked{5, 3, h}, 154, -205, 0, -154, 205)
	rowIs(t, asked{6, 2, h}, 154, -205, -154, 205, 0, 0)
	rowIs(t, asked{6, 3, h}, 154, -205, 0, -154, 205, 0)
	rowIs(t, asked{6, 4, h}, 154, -205, 0, 0, -154, 205)
	rowIs(t, asked{7, 2, h}, 154, -205, -154, 205, 0, 0, 0)
	rowIs(t, asked{7, 3, h}, 154, -205, 0, -154, 205, 0, 0)
	rowIs(t, asked{7, 4, h}, 154, -205, 0, 0, -154, 205, 0)
	rowIs(t, asked{7, 5, h}, 154, -205, 0, 0, 0, -154, 205)
	rowIs(t, asked{8, 2, h}, 154, -205, -154, 205, 0, 0, 0, 0)
	rowIs(t, asked{8, 3, h}, 154, -205, 0, -154, 205, 0, 0, 0)
	rowIs(t, asked{8, 4, h}, 154, -205, 0, 0, -154, 205, 0, 0)
	rowIs(t, asked{8, 5, h}, 154, -205, 0, 0, 0, -154, 205, 0)
	rowIs(t, asked{8, 6, h}, 154, -205, 0, 0, 0, 0, -154, 205)
}

// numbers tells parts that have a negative: noughts, what a line has, more than that, the ends of the type.
func numbers() []int64 {
	return []int64{0, 1, -1, 2, 154, -205, 256, -256, 257, -1000, 1 << 31, -1 << 31, 1 << 32, -1<<32 - 1, 1<<53 + 1, -1<<62 + 3, math.MaxInt64 - 1, math.MaxInt64, math.MinInt64 + 1, math.MinInt64 + 2}
}

// TestRowParts: all rows with all parts: each number is the one that the chapter names for its place.
func TestRowParts(t *testing.T) {
	for _, a := range rows() {
		for _, v := range numbers() {
			for _, w := range numbers() {
				a.h = [2]int64{v, w}
				want := slices.Repeat([]int64{0}, a.n)
				want[0], want[1], want[a.at], want[a.at+1] = v, w, -v, -w
				rowIs(t, a, want...)
			}
		}
	}
}

// TestRowPartsKnown: parts at the ends of what has a negative, and noughts, written down.
func TestRowPartsKnown(t *testing.T) {
	rowIs(t, asked{4, 2, [2]int64{}}, 0, 0, 0, 0)
	rowIs(t, asked{6, 4, [2]int64{0, 7}}, 0, 7, 0, 0, 0, -7)
	rowIs(t, asked{6, 4, [2]int64{7, 0}}, 7, 0, 0, 0, -7, 0)
	rowIs(t, asked{4, 2, [2]int64{math.MaxInt64, 1}}, math.MaxInt64, 1, -math.MaxInt64, -1)
	rowIs(t, asked{4, 2, [2]int64{-1, math.MaxInt64}}, -1, math.MaxInt64, 1, -math.MaxInt64)
	rowIs(t, asked{5, 3, [2]int64{-math.MaxInt64, math.MaxInt64}}, -math.MaxInt64, math.MaxInt64, 0, math.MaxInt64, -math.MaxInt64)
}

// TestRowOver: a part that has no negative, one of both or both, in all rows.
func TestRowOver(t *testing.T) {
	for _, a := range rows() {
		for _, v := range append(numbers(), math.MinInt64) {
			a.h = [2]int64{math.MinInt64, v}
			rowFails(t, a, 21)
			a.h = [2]int64{v, math.MinInt64}
			rowFails(t, a, 21)
		}
	}
}

// TestRowNone: rows that may not be, with all parts; those that have no negative too: that there is no such row is told first.
func TestRowNone(t *testing.T) {
	for _, a := range rowless() {
		for _, v := range []int64{0, 1, -256, math.MaxInt64, math.MinInt64} {
			for _, w := range []int64{0, -1, 154, math.MaxInt64, math.MinInt64} {
				a.h = [2]int64{v, w}
				rowFails(t, a, 20)
			}
		}
	}
}

// TestRowAllSmall: all small n and at: a row is there if the chapter says so.
func TestRowAllSmall(t *testing.T) {
	there := 0
	for n := -20; n <= 20; n++ {
		for at := -20; at <= 20; at++ {
			a := asked{n, at, [2]int64{3, -4}}
			if n < 4 || n > 8 || at < 2 || at+2 > n {
				rowFails(t, a, api.ErrRange)
				continue
			}
			want := slices.Repeat([]int64{0}, n)
			want[0], want[1], want[at], want[at+1] = 3, -4, -3, 4
			rowIs(t, a, want...)
			there++
		}
	}
	if there != len(rows()) {
		t.Errorf("P16.1: %d rows", there)
	}
}
