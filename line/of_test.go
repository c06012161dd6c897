package line_test

import (
	"math"
	"testing"

	"leadline/api"
)

// TestOfKnown: the chapter's example, and lines that another program reckoned.
func TestOfKnown(t *testing.T) {
	for _, x := range []struct {
		from, to       api.Point
		east, north, r int64
	}{
		{at(0, 0), at(3000, 4000), 154, 205, 5000}, // the chapter's
		{at(0, 0), at(-3000, 4000), -154, 205, 5000},
		{at(0, 0), at(3000, -4000), 154, -205, 5000},
		{at(0, 0), at(-3000, -4000), -154, -205, 5000},
		{at(0, 0), at(4000, 3000), 205, 154, 5000},
		{at(500, -700), at(3500, 3300), 154, 205, 5000},
		{at(3000, 4000), at(0, 0), -154, -205, 5000},
		{at(123456, -654321), at(-987654, 321012), -192, 169, 1478458},
		{at(-7, 9), at(1234567, -89), 256, 0, 1234574},
		{at(4000000, -4000000), at(3999000, -3999999), -256, 0, 1000},
		{at(17, 4), at(5017, 12004), 98, 236, 13000},
		{at(1000000, 2000000), at(1000731, 2000684), 187, 175, 1001},
	} {
		ofIs(t, x.from, x.to, x.east, x.north, x.r)
		ofHolds(t, x.from, x.to)
	}
}

// TestOfStraight: straight east, north, west, south, from all over, near and far.
func TestOfStraight(t *testing.T) {
	for _, from := range []api.Point{at(0, 0), at(1, -1), at(-777, 12345), at(2000000, 2000000), at(-1999999, 2000001)} {
		for _, r := range []int64{1000, 1001, 1024, 5000, 65536, 1234567, 2097152} {
			ofIs(t, from, at(from.X+r, from.Y), 256, 0, r)
			ofIs(t, from, at(from.X, from.Y+r), 0, 256, r)
			ofIs(t, from, at(from.X-r, from.Y), -256, 0, r)
			ofIs(t, from, at(from.X, from.Y-r), 0, -256, r)
		}
	}
}

// TestOfWorldApart: from one end of all places to the other, along, across and aslant.
func TestOfWorldApart(t *testing.T) {
	const m = farthest
	for _, x := range []struct {
		from, to       api.Point
		east, north, r int64
	}{
		{at(-m, -m), at(m, m), 181, 181, 11863283},
		{at(m, m), at(-m, -m), -181, -181, 11863283},
		{at(-m, m), at(m, -m), 181, -181, 11863283},
		{at(m, -m), at(-m, m), -181, 181, 11863283},
		{at(-m, 0), at(m, 0), 256, 0, 8388608},
		{at(0, m), at(0, -m), 0, -256, 8388608},
		{at(-m, -m), at(-m, m), 0, 256, 8388608},
		{at(-m, -m), at(m, m-1), 181, 181, 11863282},
		{at(-m, 1-m), at(m, m), 181, 181, 11863282},
	} {
		ofIs(t, x.from, x.to, x.east, x.north, x.r)
		ofHolds(t, x.from, x.to)
	}
}

// TestOfNear: an R of 999, of 1000, of 1001, straight and aslant: rounded down it is held against 1000.
func TestOfNear(t *testing.T) {
	for _, x := range []struct{ east, north, toEast, toNorth, r int64 }{
		{999, 0, 0, 0, 999},
		{1000, 0, 256, 0, 1000},
		{1001, 0, 256, 0, 1001},
		{600, 799, 0, 0, 999},
		{600, 800, 154, 205, 1000},
		{600, 801, 154, 205, 1000},
		{600, 802, 153, 205, 1001},
		{707, 707, 0, 0, 999},
		{707, 708, 181, 181, 1000},
		{708, 708, 181, 181, 1001},
		{999, 44, 0, 0, 999}, // nearly 1000
		{999, 45, 256, 12, 1000},
		{1000, 44, 256, 11, 1000}, // nearly 1001
		{1000, 45, 256, 12, 1001},
	} {
		for _, from := range []api.Point{at(0, 0), at(-3, 5), at(-farthest, -farthest), at(farthest-1001, farthest-1001)} {
			to, aslant := at(from.X+x.east, from.Y+x.north), at(from.X+x.north, from.Y+x.east)
			if x.r < 1000 {
				ofFails(t, from, to, api.ErrNear)
				ofFails(t, to, from, api.ErrNear)
				ofFails(t, from, aslant, api.ErrNear)
				ofFails(t, aslant, from, api.ErrNear)
				continue
			}
			ofIs(t, from, to, x.toEast, x.toNorth, x.r)
			ofIs(t, to, from, -x.toEast, -x.toNorth, x.r)
			ofIs(t, from, aslant, x.toNorth, x.toEast, x.r)
			ofIs(t, aslant, from, -x.toNorth, -x.toEast, x.r)
		}
	}
}

// TestOfNearAll: all ways in a quarter that are about 1000 long, and places that are the same or beside one another.
func TestOfNearAll(t *testing.T) {
	for east := int64(0); east <= 1003; east++ {
		for north := int64(0); north <= 1003; north++ {
			if square := east*east + north*north; square > 997*997 && square < 1004*1004 {
				ofHolds(t, at(0, 0), at(east, north))
				ofHolds(t, at(500, 2), at(500-east, 2+north))
			}
		}
	}
	for _, x := range spots() {
		for _, y := range spots() {
			ofFails(t, at(x, y), at(x, y), 33)
			for _, by := range []api.Point{at(1, 0), at(0, -1), at(-1, 1), at(600, -600), at(-999, 0), at(0, 999)} {
				if to := at(x+by.X, y+by.Y); max(to.X, to.Y) <= farthest && min(to.X, to.Y) >= -farthest {
					ofFails(t, at(x, y), to, 33)
				}
			}
		}
	}
}

// TestOfHalves: parts that are just halves: of two nearest numbers the greater one, below nought too.
func TestOfHalves(t *testing.T) {
	for _, x := range []struct{ east, north, toEast, toNorth, r int64 }{
		{2, 1024, 1, 256, 1024},
		{-2, 1024, 0, 256, 1024},
		{6, 1024, 2, 256, 1024},
		{-6, 1024, -1, 256, 1024},
		{1024, 2, 256, 1, 1024},
		{1024, -2, 256, 0, 1024},
		{-1024, 6, -256, 2, 1024},
		{1024, -6, 256, -1, 1024},
		{9, -1536, 2, -256, 1536},
		{-9, -1536, -1, -256, 1536},
		{1, 1024, 0, 256, 1024}, // a quarter, three quarters
		{-1, 1024, 0, 256, 1024},
		{3, 1024, 1, 256, 1024},
		{-3, 1024, -1, 256, 1024},
		{66, 1022, 17, 256, 1024}, // 16.5, 255.5
		{-66, 1022, -16, 256, 1024},
		{66, -1022, 17, -255, 1024},
		{-66, -1022, -16, -255, 1024},
		{522, 882, 131, 221, 1024},
		{-522, -882, -130, -220, 1024},
		{4615, 4797, 178, 185, 6656},
		{-4615, -4797, -177, -184, 6656},
	} {
		ofIs(t, at(0, 0), at(x.east, x.north), x.toEast, x.toNorth, x.r)
		ofHolds(t, at(-1234, 567), at(x.east-1234, x.north+567))
	}
	for _, x := range []struct {
		from, to       api.Point
		east, north, r int64
	}{
		{at(1671772, -53296), at(4077668, -3199700), 156, -203, 3960832}, // 155.5
		{at(4097001, 7884), at(3037624, -1361826), -157, -202, 1731584},  // -202.5
		{at(1603855, 3493490), at(-3743333, -4015172), -148, -209, 9218048},
		{at(3672874, 2615895), at(-2379578, -3676293), -177, -184, 8730624},
		{at(-3447785, 381843), at(4189775, -2113344), 243, -79, 8034816},
		{at(-371311, 276127), at(514421, 714237), 229, 114, 988160},
		{at(-2617327, -2835553), at(-2427598, 757265), 14, 256, 3597824},
		{at(2720943, -808919), at(948649, 3392439), -99, 236, 4559872},
	} {
		ofIs(t, x.from, x.to, x.east, x.north, x.r)
		ofHolds(t, x.from, x.to)
	}
}

// TestOfTooFar: each coordinate alone one past its end, either way, then several; where both are as near as can be, too.
func TestOfTooFar(t *testing.T) {
	for _, x := range []struct{ from, to api.Point }{
		{at(4194305, 0), at(0, 0)},
		{at(-4194305, 0), at(0, 0)},
		{at(0, 4194305), at(0, 0)},
		{at(0, -4194305), at(0, 0)},
		{at(4194305, 0), at(4194304, 0)}, // near one another: too far is told first
		{at(0, -4194305), at(0, -4194304)},
		{at(4194305, 7), at(4194305, 7)}, // the same place
		{at(7, -4194305), at(7, -4194305)},
		{at(4194305, -4194305), at(0, 0)},
		{at(4194305, 0), at(-4194305, 0)},
		{at(4194305, 0), at(0, -4194305)},
		{at(4194305, 4194305), at(-4194305, -4194305)},
		{at(4194305, 4194305), at(4194305, 4194305)},
		{at(4194305, 0), at(4193305, 0)}, // 1000 apart
		{at(4194305, 0), at(4193306, 0)}, // 999 apart
	} {
		ofFails(t, x.from, x.to, api.ErrOver)
		ofFails(t, x.to, x.from, api.ErrOver)
	}
}

// TestOfEndsOfType: coordinates whose difference goes round, or is little again.
func TestOfEndsOfType(t *testing.T) {
	for _, x := range []struct{ v, w int64 }{
		{math.MinInt64, 0},
		{math.MaxInt64, 0},
		{math.MinInt64, math.MinInt64}, // nought
		{math.MaxInt64, math.MaxInt64},
		{math.MinInt64, math.MaxInt64}, // 1 or -1, if it went round
		{math.MinInt64 + 1000, math.MaxInt64 - 1000},
		{math.MinInt64, math.MinInt64 + 2000},
		{math.MaxInt64, math.MaxInt64 - 2000},
		{math.MinInt64, farthest},
		{math.MinInt64, -farthest},
		{math.MaxInt64, farthest},
		{math.MaxInt64, -farthest},
		{1 << 62, -1 << 62},
		{1 << 32, 1<<32 + 5000},
		{1 << 32, -1 << 32},
	} {
		for _, other := range []int64{0, 1, 5000, -farthest, farthest} {
			ofFails(t, at(x.v, other), at(x.w, 0), 21)
			ofFails(t, at(x.w, 0), at(x.v, other), 21)
			ofFails(t, at(other, x.v), at(0, x.w), 21)
			ofFails(t, at(0, x.w), at(other, x.v), 21)
			ofFails(t, at(x.v, x.v), at(x.w, x.w), 21)
			ofFails(t, at(x.w, x.v), at(x.w, x.v), 21)
		}
	}
}

// TestOfEnds: all coordinates at their ends and beside them; one of them past its end.
func TestOfEnds(t *testing.T) {
	for _, v := range spots() {
		for _, w := range spots() {
			for _, x := range spots() {
				for _, y := range spots() {
					ofHolds(t, at(v, w), at(x, y))
				}
			}
			for _, x := range beyond() {
				ofFails(t, at(x, v), at(w, w), 21)
				ofFails(t, at(v, x), at(w, w), 21)
				ofFails(t, at(v, v), at(x, w), 21)
				ofFails(t, at(v, v), at(w, x), 21)
			}
		}
	}
}

// TestOfByChance: places all over, and places by one another, near each end too.
func TestOfByChance(t *testing.T) {
	d, near, over := thrown(1), 0, 0
	for range 50000 {
		ofHolds(t, somewhere(d), somewhere(d))
	}
	for range 50000 {
		from := somewhere(d)
		to := at(from.X+upTo(d, 1500), from.Y+upTo(d, 1500))
		ofHolds(t, from, to)
		switch _, number := lined(from, to); number {
		case 33:
			near++
		case 21:
			over++
		}
	}
	if near == 0 || over == 0 {
		t.Errorf("P16.1: %d were too near, %d too far", near, over)
	}
}

// TestOfHalvesByChance: ways that are 512 times a number long, and have an odd number of times that number in one part.
func TestOfHalvesByChance(t *testing.T) {
	d, found := thrown(2), 0
	for range 20000 {
		k := d.Int64N(16383) + 2
		one := k * (2*d.Int64N(256) + 1)
		other := int64(math.Sqrt(float64(512*k*512*k-one*one))) + d.Int64N(3) - 1
		for _, to := range []api.Point{at(one, other), at(-one, other), at(other, one), at(other, -one), at(-other, -one)} {
			from := at(-to.X/2, -to.Y/2)
			to = at(from.X+to.X, from.Y+to.Y)
			if ofHolds(t, from, to); max(to.X, to.Y) <= farthest {
				if l, _ := lined(from, to); l.R == 512*k {
					found++
				}
			}
		}
	}
	if found < 1000 {
		t.Errorf("P16.1: %d halves", found)
	}
}
