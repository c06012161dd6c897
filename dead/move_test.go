package dead_test

import (
	"math"
	"testing"
)

// TestMoveNorth: the chapter's example: ahead to the north is Y alone.
func TestMoveNorth(t *testing.T) {
	moveIs(t, leg{0, 1000, 0, 1000}, 0, 1000)
	moveIs(t, leg{0, 1500, 0, 250}, 0, 375)
	moveIs(t, leg{0, fastest, 0, longest}, 0, 600000)
	moveIs(t, leg{0, 1, 0, 1000}, 0, 1)
	for _, ahead := range speeds() {
		for _, millis := range times() {
			if p, err := move(leg{0, ahead, 0, millis}); err != nil || p.X != 0 {
				t.Errorf("P15.1: %d ahead to the north for %d: %v, %v", ahead, millis, p, err)
			}
		}
	}
}

// TestMoveQuarters: at the quarters' first headings: ahead and back, to the right and to the left, and both at once.
func TestMoveQuarters(t *testing.T) {
	const north, east, south, west = 0, 16384, 32768, 49152
	for _, x := range []struct {
		heading                uint16
		ahead, right, toX, toY int64
	}{
		{north, 1000, 0, 0, 1000},
		{east, 1000, 0, 1000, 0},
		{south, 1000, 0, 0, -1000},
		{west, 1000, 0, -1000, 0},
		{north, -1000, 0, 0, -1000},
		{east, -1000, 0, -1000, 0},
		{south, -1000, 0, 0, 1000},
		{west, -1000, 0, 1000, 0},
		{north, 0, 1000, 1000, 0},
		{east, 0, 1000, 0, -1000},
		{south, 0, 1000, -1000, 0},
		{west, 0, 1000, 0, 1000},
		{north, 0, -1000, -1000, 0},
		{east, 0, -1000, 0, 1000},
		{south, 0, -1000, 1000, 0},
		{west, 0, -1000, 0, -1000},
		{north, 1000, 200, 200, 1000},
		{east, 1000, 200, 1000, -200},
		{south, 1000, 200, -200, -1000},
		{west, 1000, 200, -1000, 200},
		{north, -1000, -200, -200, -1000},
		{east, -1000, -200, -1000, 200},
		{south, -1000, -200, 200, 1000},
		{west, -1000, -200, 1000, -200},
		{north, 1000, -200, -200, 1000},
		{east, -1000, 200, -1000, -200},
	} {
		moveIs(t, leg{x.heading, x.ahead, x.right, 1000}, x.toX, x.toY)
		moveIs(t, leg{x.heading, x.ahead, x.right, 17000}, 17*x.toX, 17*x.toY)
		moveIs(t, leg{x.heading, 10 * x.ahead, 10 * x.right, 60000}, 600*x.toX, 600*x.toY)
	}
}

// TestMoveKnown: ways that another program reckoned.
func TestMoveKnown(t *testing.T) {
	for _, x := range []struct {
		leg
		toX, toY int64
	}{
		{leg{8192, 1000, 0, 1000}, 707, 707}, // the quarters' middles
		{leg{24576, 1000, 0, 1000}, 707, -707},
		{leg{40960, 1000, 0, 1000}, -707, -707},
		{leg{57344, 1000, 0, 1000}, -707, 707},
		{leg{8192, 1000, 1000, 1000}, 1415, 0},
		{leg{8192, -1000, 1000, 1000}, 0, -1415},
		{leg{1, fastest, 0, longest}, 55, 599982}, // beside the quarters' ends
		{leg{16383, fastest, 0, longest}, 599982, 55},
		{leg{16385, fastest, 0, longest}, 599982, -55},
		{leg{32767, fastest, 0, longest}, 55, -599982},
		{leg{32769, fastest, 0, longest}, -55, -599982},
		{leg{49151, fastest, 0, longest}, -599982, -55},
		{leg{49153, fastest, 0, longest}, -599982, 55},
		{leg{65535, fastest, 0, longest}, -55, 599982}, // the last heading
		{leg{8192, fastest, fastest, longest}, 848877, 0},
		{leg{8192, -fastest, -fastest, longest}, -848877, 0},
		{leg{24576, fastest, -fastest, longest}, 848877, 0},
		{leg{0, fastest, fastest, longest}, 600000, 600000},
		{leg{12345, -6789, 4321, 54321}, -252955, -356707},
		{leg{54321, 1234, -9876, 777}, -4494, -6297},
		{leg{5461, 1500, -20, 250}, 183, 327},
		{leg{10923, 1500, 20, 250}, 327, 183},
		{leg{65535, 1, 1, longest}, 60, 60},
	} {
		moveIs(t, x.leg, x.toX, x.toY)
		moveHolds(t, x.leg)
	}
}

// TestMoveHalves: ways that are just halves: of two nearest numbers the greater one, below nought too.
func TestMoveHalves(t *testing.T) {
	for _, x := range []struct {
		leg
		toX, toY int64
	}{
		{leg{0, 1, 0, 500}, 0, 1},
		{leg{0, -1, 0, 500}, 0, 0},
		{leg{0, 1, 0, 499}, 0, 0},
		{leg{0, -1, 0, 501}, 0, -1},
		{leg{0, 3, 0, 500}, 0, 2},
		{leg{0, -3, 0, 500}, 0, -1},
		{leg{0, 0, 1, 500}, 1, 0},
		{leg{0, 0, -1, 500}, 0, 0},
		{leg{16384, 1, 0, 500}, 1, 0},
		{leg{16384, -1, 0, 500}, 0, 0},
		{leg{32768, 1, 0, 500}, 0, 0},
		{leg{49152, 1, 0, 500}, 0, 0},
		{leg{49152, -1, 0, 500}, 1, 0},
		{leg{65222, -1777, 6182, 32000}, 199445, -50885}, // X is 199444.5
		{leg{29977, -5259, -7304, 48000}, 271448, 336202},
		{leg{38415, -6729, 7725, 32000}, -100951, 312045}, // X is -100951.5
		{leg{6647, 13, -9776, 48000}, -376954, 279805},
		{leg{11487, -7858, -5490, 32000}, -303847, 42943},
		{leg{10646, 8630, -4162, 32000}, 165885, 257999}, // Y is 257998.5
		{leg{16396, -8793, -4317, 32000}, -281211, 138458},
		{leg{59539, -6960, 5716, 32000}, 274720, -87501}, // Y is -87501.5
		{leg{34856, 152, -8748, 32000}, 273416, -60433},
		{leg{55644, 7158, -9931, 16000}, -185763, -62369},
	} {
		moveIs(t, x.leg, x.toX, x.toY)
		moveHolds(t, x.leg)
	}
	for v := int64(1); v < fastest; v += 2 { // an odd speed for half a second, or for an odd number of them
		for _, millis := range []uint32{500, 1500, 59500} {
			moveHolds(t, leg{0, v, -v, millis})
			moveHolds(t, leg{32768, v, -v, millis})
			moveHolds(t, leg{16384, -v, v, millis})
		}
	}
}

// TestMoveAllHeadings: every heading, with some speeds and times.
func TestMoveAllHeadings(t *testing.T) {
	for heading := range 65536 {
		h := uint16(heading)
		moveHolds(t, leg{h, fastest, 0, longest})
		moveHolds(t, leg{h, 0, fastest, longest})
		moveHolds(t, leg{h, fastest, fastest, longest})
		moveHolds(t, leg{h, -fastest, fastest, longest})
		moveHolds(t, leg{h, 1357, -246, 32000})
	}
}

// TestMoveEnds: all at their ends and beside them, and by chance.
func TestMoveEnds(t *testing.T) {
	for _, heading := range headings() {
		for _, ahead := range speeds() {
			for _, right := range speeds() {
				for _, millis := range times() {
					moveHolds(t, leg{heading, ahead, right, millis})
				}
			}
		}
	}
	d := thrown(1)
	for range 100000 {
		moveHolds(t, someLeg(d))
	}
}

// TestMoveStands: in no time, or at no speed, it goes nowhere.
func TestMoveStands(t *testing.T) {
	for _, heading := range headings() {
		for _, ahead := range speeds() {
			for _, right := range speeds() {
				moveIs(t, leg{heading, ahead, right, 0}, 0, 0)
			}
		}
		for _, millis := range times() {
			moveIs(t, leg{heading, 0, 0, millis}, 0, 0)
		}
	}
}

// TestMoveOneWrong: one measure that may not be, whatever the heading and the others.
func TestMoveOneWrong(t *testing.T) {
	for _, heading := range headings() {
		for _, other := range []int64{0, 1, -fastest, fastest} {
			for _, v := range beyond(fastest) {
				for _, millis := range []uint32{0, 1000, longest} { // in no time too
					moveFails(t, leg{heading, v, other, millis})
					moveFails(t, leg{heading, other, v, millis})
				}
			}
			for _, millis := range tooLong() {
				moveFails(t, leg{heading, other, 0, millis}) // at no speed too
				moveFails(t, leg{heading, 0, other, millis})
				moveFails(t, leg{heading, other, -other, millis})
			}
		}
	}
}

// TestMoveMoreWrong: two measures that may not be, and all three.
func TestMoveMoreWrong(t *testing.T) {
	for _, heading := range []uint16{0, 8192, 16384, 32768, 65535} {
		for _, v := range beyond(fastest) {
			for _, w := range beyond(fastest) {
				moveFails(t, leg{heading, v, w, 1000})
				moveFails(t, leg{heading, v, w, 0})
				moveFails(t, leg{heading, v, w, longest + 1})
			}
			for _, millis := range tooLong() {
				moveFails(t, leg{heading, v, 0, millis})
				moveFails(t, leg{heading, 0, v, millis})
			}
		}
	}
}

// TestMoveLimits: each measure at its limits and one past them, written down.
func TestMoveLimits(t *testing.T) {
	moveIs(t, leg{0, 10000, 0, 1000}, 0, 10000)
	moveFails(t, leg{0, 10001, 0, 1000})
	moveIs(t, leg{0, -10000, 0, 1000}, 0, -10000)
	moveFails(t, leg{0, -10001, 0, 1000})
	moveIs(t, leg{0, 0, 10000, 1000}, 10000, 0)
	moveFails(t, leg{0, 0, 10001, 1000})
	moveIs(t, leg{0, 0, -10000, 1000}, -10000, 0)
	moveFails(t, leg{0, 0, -10001, 1000})
	moveIs(t, leg{0, 100, 0, 59999}, 0, 6000)
	moveIs(t, leg{0, 100, 0, 60000}, 0, 6000)
	moveFails(t, leg{0, 100, 0, 60001})
	moveFails(t, leg{0, 100, 0, math.MaxUint32})
	moveFails(t, leg{0, math.MinInt64, 0, 1000})
	moveFails(t, leg{0, math.MaxInt64, 0, 1000})
	moveFails(t, leg{0, 0, math.MinInt64, 1000})
	moveFails(t, leg{0, 0, math.MaxInt64, 1000})
}
