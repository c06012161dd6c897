package info_test

import (
	"math"
	"math/big"
	"testing"

	"leadline/api"
	"leadline/bound"
	"leadline/info"
)

// ranged tells ranges that are taken, by chance: states of all sizes, ranges at most so far off as passes.
func ranged(t *testing.T, seed uint64, many int, use func(a asked, got api.State)) {
	t.Helper()
	d, taken := thrown(seed), 0
	for range many {
		rows := orders()[1+d.IntN(15)]
		n := sizeOf(rows)
		x := vector(d, n, 90000)
		a := asked{s: placed(heavy(d, n, 1+d.Int64N(1<<(1+d.IntN(26)))), x, rows), c: config(1+d.Int64N(1<<(1+d.IntN(12))), 1+d.Int64N(widest), math.MinInt64, math.MaxInt64), slot: d.IntN(slots)}
		if rows[a.slot] == -1 {
			continue
		}
		_, r, number := row(x, rows[a.slot])
		if number != 0 {
			continue
		}
		a.r = max(r+upTo(d, lastOff(t, a.s, a.slot, a.c)), 0)
		got, err := fuse(t, a)
		if err != nil {
			continue
		}
		taken++
		use(a, got)
	}
	if taken < many/4 {
		t.Errorf("P18.4: %d of %d ranges were taken", taken, many)
	}
}

// TestNoLess: what is known after a range is no less than before, in any direction: the matrix is above the one ahead of it, and the state is right.
func TestNoLess(t *testing.T) {
	d := thrown(11)
	ranged(t, 12, 130, func(a asked, got api.State) {
		if !info.Right(got) || !bound.Below(a.s.M, got.M) {
			t.Errorf("P18.4: Fuse(%v): %v is less", a, got)
		}
		for range 6 {
			h := vector(d, got.M.N, 300)
			if quad(got.M, h).Cmp(quad(a.s.M, h)) > 0 {
				t.Errorf("P18.4: Fuse(%v): %v knows less in direction %d", a, got, h)
			}
		}
		if least := last(a.s.M, 1, -1<<35, 1<<35); !bound.Least(got.M, least) {
			t.Errorf("P18.4: Fuse(%v): %v doesn't keep %d any more", a, got, least)
		}
	})
}

// TestAsMuchAsItTells: in its own direction a range makes what is known more by its weight: one over the spread is so much more behind it, just that.
func TestAsMuchAsItTells(t *testing.T) {
	ranged(t, 13, 250, func(a asked, got api.State) {
		mean, _ := meant(a.s)
		h, _, _ := row(mean, a.s.Row[a.slot])
		ahead, behind := new(big.Rat).Inv(quad(a.s.M, h)), new(big.Rat).Inv(quad(got.M, h))
		if less(behind, ahead).Cmp(whole(a.c.Weight)) != 0 {
			t.Errorf("P18.4: Fuse(%v): %v more instead of %d", a, less(behind, ahead), a.c.Weight)
		}
	})
}

// TestAcross: across its direction a range tells nothing.
func TestAcross(t *testing.T) {
	for slot := range slots {
		s := metres(slot, 1000)
		got := fuses(t, asked{s, config(50, 9, 1, edge), slot, 5003})
		for _, h := range [][]int64{{205, -154, 0, 0}, {0, 0, 205, -154}, {1, 0, 1, 0}, {0, -7, 0, -7}, {205, -154, 205, -154}} {
			if quad(got.M, h).Cmp(quad(s.M, h)) != 0 {
				t.Errorf("P18.4: Fuse(%v): %v knows other than it did in direction %d", s, got, h)
			}
		}
	}
}

// TestNearerToTheRange: behind a range both places are so far off one another as the range and what was known together tell: by weights, along the line.
func TestNearerToTheRange(t *testing.T) {
	for _, off := range []int64{-64, -1, 0, 7, 64} {
		for _, weight := range []int64{1, 10, 1000} {
			s := two(at(20000, 0), at(10000, 0), 1, 131072) // the spread of the difference is 1 over 65536 of a millimetre's square: as much as a range of weight 1 tells
			got := fuses(t, asked{s, config(weight, widest, 1, edge), 1, 10000 + off})
			mean, number := meant(got)
			if number != 0 {
				t.Fatalf("P18.4: %v has no mean", got)
			}
			moved := nearest(big.NewRat(off*weight, 2*(weight+1))).Int64() // each of the two goes half of it
			if mean[0] != 20000+moved || mean[1] != 0 || mean[3] != 0 || max(mean[2]-10000+moved, 10000-moved-mean[2]) > 1 {
				t.Errorf("P18.4: off by %d, of weight %d: %d", off, weight, mean)
			}
		}
	}
}

// TestFoundByRanges: a vehicle and three beacons whose places are told some metres wrong: after many ranges, as they are, what is foreseen is nearly what is ranged.
func TestFoundByRanges(t *testing.T) {
	vehicle := at(1000, 2000)
	beacons := []api.Point{at(60000, 3000), at(-20000, 50000), at(-30000, -45000)}
	s, err := info.New(at(vehicle.X+2500, vehicle.Y-1700), 20)
	for slot, p := range beacons {
		if err == nil {
			s, err = info.Add(s, slot, at(p.X-300, p.Y+200), 5000)
		}
	}
	if err != nil {
		t.Fatalf("P18.2: Add: %v", err)
	}
	for range 30 {
		for slot, p := range beacons {
			s = fuses(t, asked{s, config(3, widest, 1, edge/2), slot, apart(p, vehicle)})
		}
	}
	for slot, p := range beacons {
		if r := apart(p, vehicle); max(r-length(t, s, slot), length(t, s, slot)-r) > 20 {
			t.Errorf("P18.4: %d of slot %d instead of %d", length(t, s, slot), slot, r)
		}
	}
}

// apart tells how far off one another two places are.
func apart(a, b api.Point) int64 {
	return int64(math.Hypot(float64(a.X-b.X), float64(a.Y-b.Y)))
}
