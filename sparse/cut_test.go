package sparse_test

import (
	"math"
	"testing"

	"leadline/api"
)

// TestExample holds the chapter's own: behind a Cut the Link is 0.
func TestExample(t *testing.T) {
	for _, rows := range orders() {
		for _, s := range links(rows) {
			for _, slot := range beacons(rows) {
				linkIs(t, cuts(t, open(s, slot)), slot, 0)
			}
		}
	}
}

// TestByHand holds Cut against states that are small enough to be reckoned by hand.
func TestByHand(t *testing.T) {
	// at 1, 2 and 3, 4: V is 100 + 9 - 20, 200 + 9, 3 + 6 + 300, -5 + 400; behind a cut the mean is the same
	s := placed(api.Sym{N: 4, A: []int64{100, 0, 3, -5, 100, 3, 0, 100, 0, 100}}, []int64{1, 2, 3, 4}, [slots]int{2, -1, -1})
	cutIs(t, open(s, 0), known(4, []int64{92, 0, 0, 0, 97, 0, 0, 94, 0, 95}, []int64{92, 194, 282, 380}, 2, -1, -1))
	// the mean is 8 over 15, 0, -2 over 15, 0, taken as 1, 0, 0, 0
	s = known(4, []int64{4, 0, 1, 0, 4, 0, 0, 4, 0, 4}, []int64{2, 0, 0, 0}, -1, 2, -1)
	cutIs(t, open(s, 1), known(4, []int64{3, 0, 0, 0, 4, 0, 0, 3, 0, 4}, []int64{1, 0, -1, 0}, -1, 2, -1))
	// the mean is -8 over 15, 0, 0, -2 over 15, taken as -1, 0, 0, 0
	s = known(4, []int64{4, 0, 0, -1, 4, 0, 0, 4, 0, 4}, []int64{-2, 0, 0, 0}, -1, -1, 2)
	cutIs(t, open(s, 2), known(4, []int64{3, 0, 0, 0, 4, 0, 0, 4, 0, 3}, []int64{-1, 0, 0, -1}, -1, -1, 2))
	// halves: 1 over 2, 0 is taken as 1, 0; -1 over 2, 1 over 2 as 0, 1
	s = known(4, []int64{2, 0, 2, 0, 4, 0, 0, 4, 0, 4}, []int64{1, 0, 1, 0}, 2, -1, -1)
	cutIs(t, open(s, 0), known(4, []int64{0, 0, 0, 0, 4, 0, 0, 2, 0, 4}, []int64{-1, 0, -1, 0}, 2, -1, -1))
	cutIs(t, open(told(s, 0, 0), 0), known(4, []int64{0, 0, 0, 0, 4, 0, 0, 2, 0, 4}, []int64{-2, 0, -1, 0}, 2, -1, -1))
	// two beacons: what links the other one stays, to the vehicle and to the beacon that is cut
	s = placed(api.Sym{N: 6, A: []int64{50, 1, 2, 0, 3, 0, 60, 0, 4, 0, -5, 70, 1, 6, 0, 80, 0, 7, 90, 1, 99}}, []int64{1, 1, 1, 1, 1, 1}, [slots]int{4, 2, -1})
	cutIs(t, open(s, 0), known(6, []int64{47, 1, 2, 0, 0, 0, 55, 0, 4, 0, 0, 70, 1, 6, 0, 80, 0, 7, 87, 1, 94}, []int64{50, 60, 79, 92, 94, 102}, 4, 2, -1))
	cutIs(t, open(s, 1), known(6, []int64{48, 1, 0, 0, 3, 0, 56, 0, 0, 0, -5, 68, 1, 6, 0, 76, 0, 7, 90, 1, 99}, []int64{52, 52, 75, 84, 100, 102}, 4, 2, -1))
}

// TestKnown: states, the slot, its Link, and what is known behind a Cut, as another program reckoned it.
func TestKnown(t *testing.T) {
	for _, x := range []struct {
		s    api.State
		slot int
		link int64
		want api.State
	}{
		{known(4, []int64{479, 58, -56, 71, 498, 18, 13, 460, -6, 453}, []int64{-46147118, -329688463, 120718379, -366513518}, -1, 2, -1), 1, 158,
			known(4, []int64{352, 58, 0, 0, 467, 0, 0, 386, -6, 369}, []int64{10100723, -303795690, 118682895, -299830700}, -1, 2, -1)},
		{known(4, []int64{14476, -1781, 862, 705, 12430, 2780, 2489, 12662, 1023, 14546}, []int64{95944194, 42968946, -82989141, 75969491}, 2, -1, -1), 0, 6836,
			known(4, []int64{12909, -1781, 0, 0, 7161, 0, 0, 9020, 1023, 11352}, []int64{88306261, 26417336, -73520779, 42311586}, 2, -1, -1)},
		{known(6, []int64{32154, -2454, -4570, 3832, -79, 2600, 31944, 32, 3215, 2533, -991, 34222, -4330, 3559, -1059, 32011, 4324, -179, 32426, -2901, 33464}, []int64{-183695135, 2017784949, -284485082, -1160037851, 2581075786, 320932773}, 4, -1, 2), 0, 6203,
			known(6, []int64{29475, -2454, -4570, 3832, 0, 0, 28420, 32, 3215, 0, 0, 34222, -4330, 3559, -1059, 32011, 4324, -179, 29814, -2901, 29873}, []int64{-226607457, 1594893003, -284485082, -1160037851, 2196019760, 315856371}, 4, -1, 2)},
		{known(6, []int64{272, -28, -23, -33, 5, -9, 275, 18, -27, 14, 40, 254, 22, 3, 16, 245, -15, 0, 262, -37, 273}, []int64{-57411, 88238, 224621, 177306, 46738, 185615}, 2, 4, -1), 0, 101,
			known(6, []int64{216, -28, 0, 0, 5, -9, 230, 0, 0, 14, 40, 213, 22, 3, 16, 185, -15, 0, 262, -37, 273}, []int64{-15662, 82982, 188728, 141030, 46738, 185615}, 2, 4, -1)},
		{known(8, []int64{601354, -40924, 55521, 33527, 25847, -10554, -62935, 35376, 576259, 2757, 64300, 16695, 46900, 21910, -46400, 629527, -36430, 37957, -62472, -66511, 60885, 578439, 32216, -63860, -52292, -17652, 573155, 3399, 61382, 64362, 619463, -3496, -26501, 615625, -6859, 560490}, []int64{-139717300806, 265235023046, -209449399612, -460818659866, 149961582003, 246898098140, 428674046699, -289255608827}, 6, 2, 4), 2, 99996,
			known(8, []int64{564953, -40924, 55521, 33527, 0, 0, -62935, 35376, 512664, 2757, 64300, 0, 0, 21910, -46400, 629527, -36430, 37957, -62472, -66511, 60885, 578439, 32216, -63860, -52292, -17652, 530613, 3399, 61382, 64362, 562009, -3496, -26501, 615625, -6859, 560490}, []int64{-143311295663, 219856314146, -209449399612, -460818659866, 130469418850, 211382273744, 428674046699, -289255608827}, 6, 2, 4)},
		{known(8, []int64{74, 2, -7, 9, 5, 3, 6, 8, 78, 0, -7, 8, 4, 7, 5, 77, 2, -3, -5, 5, 5, 76, 4, 1, 2, 6, 76, 5, 2, 8, 75, 1, 7, 80, 8, 79}, []int64{825, -6177, -2228, 4719, -1016, 73, 340, 5729}, 2, 4, 6), 1, 20,
			known(8, []int64{66, 2, -7, 9, 0, 0, 6, 8, 66, 0, -7, 0, 0, 7, 5, 77, 2, -3, -5, 5, 5, 76, 4, 1, 2, 6, 63, 5, 2, 8, 68, 1, 7, 80, 8, 79}, []int64{954, -5089, -2228, 4719, -151, 425, 340, 5729}, 2, 4, 6)},
		{known(8, []int64{8543500, -979162, -201911, 138399, -615508, -503242, 554849, 795486, 8888658, -308682, -51860, -707570, 781123, 362033, 414021, 8528240, 882173, 713971, 916751, 391355, -60508, 8829991, -273018, 710978, 685363, 582097, 8623827, 171953, 501811, 526704, 8404564, 623710, 548913, 8213568, 593586, 8599278}, []int64{28300972937745, -14947159990318, -21163127080730, -36850320481827, -6283994196215, -22324881632120, -4338047048584, -26298777242749}, 4, 6, 2), 1, 2126389,
			known(8, []int64{7193165, -979162, -201911, 138399, -615508, -503242, 0, 0, 8112604, -308682, -51860, -707570, 781123, 0, 0, 8528240, 882173, 713971, 916751, 391355, -60508, 8829991, -273018, 710978, 685363, 582097, 8623827, 171953, 501811, 526704, 8404564, 623710, 548913, 7296686, 593586, 7389771}, []int64{26097845837994, -12854118611945, -21163127080730, -36850320481827, -6283994196215, -22324881632120, -5830710287861, -24916199724850}, 4, 6, 2)},
	} {
		linkIs(t, x.s, x.slot, x.link)
		cutIs(t, open(x.s, x.slot), x.want)
		cutHolds(t, open(x.s, x.slot))
	}
}

// TestOrdinary: states of no beacon up to all of them, their rows in each order, linked in each way.
func TestOrdinary(t *testing.T) {
	for _, rows := range orders() {
		for _, s := range links(rows) {
			for _, slot := range beacons(rows) {
				if number := cutHolds(t, open(s, slot)); number != 0 {
					t.Errorf("P20.2: Cut(%v, %d): %v", s, slot, number)
				}
			}
		}
	}
}

// TestOneEntry: a link of which one entry alone is not nought, each of the four, above nought and below it: its amount is off two diagonal entries, no others.
func TestOneEntry(t *testing.T) {
	for _, rows := range orders() {
		n := sizeOf(rows)
		for _, slot := range beacons(rows) {
			for p := range 2 {
				for q := range 2 {
					for _, v := range []int64{1, -1, 30, -30, 999, -999} {
						row := rows[slot] + q
						ahead := placed(with(spread(rows, 1000), p, row, v).M, somewhere(n), rows)
						want := with(with(ahead, p, row, 0), p, p, 1000-max(v, -v))
						want = placed(with(want, row, row, 1000-max(v, -v)).M, somewhere(n), rows)
						cutIs(t, open(ahead, slot), want)
						cutHolds(t, open(ahead, slot))
					}
				}
			}
		}
	}
}

// TestOthersStay: what isn't the vehicle's, or that beacon's, stays bit by bit: all other entries, V's other numbers, the Rows; so do the vehicle's own two rows' entry beside the diagonal, the beacon's own, and what links either to another beacon.
func TestOthersStay(t *testing.T) {
	d := thrown(3)
	for range 20 {
		for _, rows := range orders() {
			n := sizeOf(rows)
			s := api.State{M: heavy(d, n, edge), V: vector(d, n, 1<<50), Row: rows}
			for _, slot := range beacons(rows) {
				got := cuts(t, open(s, slot))
				own := map[int]bool{0: true, 1: true, rows[slot]: true, rows[slot] + 1: true}
				if got.Row != s.Row || got.M.N != n {
					t.Errorf("P20.2: Cut(%v, %d): %v", s, slot, got)
				}
				for i := range n {
					if !own[i] && got.V[i] != s.V[i] {
						t.Errorf("P20.2: Cut(%v, %d): number %d of %v", s, slot, i, got)
					}
					for j := i; j < n; j++ {
						if i == j && own[i] || i < 2 && j >= 2 && own[j] {
							continue
						}
						if at := index(n, i, j); got.M.A[at] != s.M.A[at] {
							t.Errorf("P20.2: Cut(%v, %d): entry %d, %d of %v", s, slot, i, j, got)
						}
					}
				}
			}
		}
	}
}

// TestNothingLinked: of a Link of 0 the state is as it is, if it keeps least; else it is too loose; the mean's errors are told ahead of that.
func TestNothingLinked(t *testing.T) {
	d := thrown(4)
	for range 12 {
		for _, rows := range orders() {
			n := sizeOf(rows)
			for _, slot := range beacons(rows) {
				s := linked(api.State{M: heavy(d, n, 1+d.Int64N(1<<d.IntN(30))), V: vector(d, n, 1<<50), Row: rows}, rows[slot], [2][2]int64{})
				least := lastLeast(s.M)
				for _, keeps := range []int64{least, least - 1, min(least, 0), -1, -edge, free} {
					cutIs(t, asked{s, slot, keeps}, s)
				}
				cutFails(t, asked{s, slot, least + 1}, api.ErrLoose)
				cutFails(t, asked{s, slot, edge + 1}, 30)
				cutFails(t, open(with(s, n-1, n-1, 0), slot), 30) // not definite
			}
		}
	}
	for _, rows := range orders() {
		for _, slot := range beacons(rows) {
			s := vehicled(spread(rows, 1), [3]int64{2, -1, 1}, top-1, 1) // the vehicle's second number is top and one
			cutFails(t, open(s, slot), api.ErrOver)
			cutFails(t, asked{s, slot, math.MaxInt64}, 21)
			s = told(s, 0, top-2) // it is top
			cutIs(t, open(s, slot), s)
		}
	}
}

// vehicled tells s with these entries of the vehicle's rows, and these numbers of V.
func vehicled(s api.State, l [3]int64, v, w int64) api.State {
	return told(told(with(with(with(s, 0, 0, l[0]), 0, 1, l[1]), 1, 1, l[2]), 0, v), 1, w)
}
