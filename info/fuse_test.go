package info_test

import (
	"math"
	"slices"
	"testing"

	"leadline/api"
	"leadline/info"
)

// step: a beacon that is put in, or, where there is a weight, a range to it, with the nearest and the farthest that pass.
type step struct {
	slot              int
	place             api.Point
	sure              int64
	weight, gamma, r  int64
	nearest, farthest int64
}

// takes tells the state behind a step, which has no error; of a range, what is one nearer or one farther than what passes doesn't.
func takes(t *testing.T, s api.State, x step) api.State {
	t.Helper()
	if x.weight == 0 {
		more, err := info.Add(s, x.slot, x.place, x.sure)
		if err != nil {
			t.Errorf("P18.2: Add(%v, %v): %v", s, x, err)
		}
		return more
	}
	c := config(x.weight, x.gamma, 1, edge/2)
	fuses(t, asked{s, c, x.slot, x.nearest})
	fuses(t, asked{s, c, x.slot, x.farthest})
	fuseFails(t, asked{s, c, x.slot, x.nearest - 1}, api.ErrGate)
	fuseFails(t, asked{s, c, x.slot, x.farthest + 1}, api.ErrGate)
	return fuses(t, asked{s, c, x.slot, x.r})
}

// TestFuseKnown: starts, beacons and ranges, one behind another, and what is known then, as another program reckoned it.
func TestFuseKnown(t *testing.T) {
	for _, x := range []struct {
		start api.Point
		sure  int64
		steps []step
		want  api.State
		mean  []int64
	}{
		{start: at(-5079, 17388), sure: 4446, steps: []step{
			{slot: 0, place: at(-31821, -49587), sure: 2120},
			{slot: 0, weight: 825, gamma: 3364, r: 72508, nearest: 71724, farthest: 72508},
			{slot: 0, weight: 13, gamma: 6, r: 72507, nearest: 72507, farthest: 72507},
			{slot: 0, weight: 24, gamma: 1161, r: 72514, nearest: 72500, farthest: 72514},
			{slot: 0, weight: 9, gamma: 50, r: 72505, nearest: 72505, farthest: 72509},
		}, want: known(4, []int64{7865221, 19693310, -7860775, -19693310, 49341370, -19693310, -49336924, 7862895, 19693310, 49339044}, []int64{1537456175596, 3851866192580, -1537546217350, -3851894009972}, 2, -1, -1), mean: []int64{-5032, 17505, -31919, -49833}},
		{start: at(-35200, -10932), sure: 797470, steps: []step{
			{slot: 1, place: at(-30967, 23934), sure: 1140},
			{slot: 2, place: at(-8083, -49071), sure: 1040273},
			{slot: 1, weight: 613, gamma: 47, r: 35071, nearest: 35071, farthest: 35173},
			{slot: 2, weight: 7, gamma: 2811, r: 46777, nearest: 46768, farthest: 46824},
			{slot: 1, weight: 441, gamma: 1742, r: 35072, nearest: 35068, farthest: 35072},
			{slot: 1, weight: 154, gamma: 996, r: 35071, nearest: 35069, farthest: 35073},
		}, want: known(6, []int64{2111686, 9295268, -1160888, -9511792, -153328, 216524, 79038565, -9511792, -77935328, 216524, -305767, 1162028, 9511792, 0, 0, 77936468, 0, 0, 1193601, -216524, 1346040}, []int64{-376549342384, -2744778343735, 336032330896, 2753613699344, 4002238449, -68573249272}, -1, 2, 4), mean: []int64{-35197, -10936, -30974, 23880, -8085, -49068}},
		{start: at(43969, -23084), sure: 125896, steps: []step{
			{slot: 0, place: at(26213, 85905), sure: 922213},
			{slot: 1, place: at(38569, -28400), sure: 811},
			{slot: 2, place: at(-8030, -13562), sure: 616830},
			{slot: 1, weight: 21, gamma: 31, r: 7624, nearest: 7527, farthest: 7627},
			{slot: 0, weight: 27, gamma: 1442, r: 110425, nearest: 110395, farthest: 110455},
			{slot: 2, weight: 217, gamma: 1317, r: 52836, nearest: 52836, farthest: 52890},
			{slot: 1, weight: 40, gamma: 48, r: 7623, nearest: 7623, farthest: 7625},
		}, want: known(8, []int64{15972215, -797175, -45387, 280071, -2020564, -1998360, -13780368, 2515464, 4289711, 280071, -1728243, -1998360, -1976400, 2515464, -459172, 967600, -280071, 0, 0, 0, 0, 2650456, 0, 0, 0, 0, 2021375, 1998360, 0, 0, 1977211, 0, 0, 14397198, -2515464, 1076002}, []int64{798670970311, -309916261643, -7156580422, 272555124768, -21633991805, -21450223760, -745092772932, 126739404276}, 2, 4, 6), mean: []int64{43946, -23086, 26213, 85906, 38524, -28445, -8025, -13563}},
		{start: at(-25959, 4278), sure: 414722, steps: []step{
			{slot: 0, place: at(-45377, -19737), sure: 1046196},
			{slot: 0, weight: 11, gamma: 3032, r: 30853, nearest: 30853, farthest: 30913},
			{slot: 0, weight: 1, gamma: 1294, r: 30861, nearest: 30824, farthest: 30898},
			{slot: 0, weight: 617, gamma: 286, r: 30865, nearest: 30857, farthest: 30865},
			{slot: 0, weight: 27, gamma: 3088, r: 30865, nearest: 30855, farthest: 30875},
		}, want: known(4, []int64{17418898, 21017584, -17004176, -21017584, 26392978, -21017584, -25978256, 18050372, 21017584, 27024452}, []int64{823666041233, 1033152628645, -881905045523, -1052027218381}, 2, -1, -1), mean: []int64{-25967, 4268, -45374, -19733}},
		{start: at(2339, -41384), sure: 3473, steps: []step{
			{slot: 2, place: at(-7114, -47609), sure: 298},
			{slot: 0, place: at(31078, 39744), sure: 103},
			{slot: 0, weight: 639, gamma: 3, r: 86023, nearest: 86023, farthest: 86111},
			{slot: 2, weight: 37, gamma: 57, r: 11435, nearest: 11203, farthest: 11435},
			{slot: 2, weight: 783, gamma: 738, r: 11435, nearest: 11431, farthest: 11439},
			{slot: 0, weight: 418, gamma: 12, r: 86023, nearest: 86023, farthest: 86023},
		}, want: known(6, []int64{45193018, 46395325, -37552720, -24742680, -7636825, -21652645, 77697510, -24742680, -16302420, -21652645, -61391617, 37553018, 24742680, 0, 0, 16302718, 0, 0, 7636928, 21652645, 61391720}, []int64{-1460828407276, -5261286814469, -514261372224, -338848554620, 1975098983909, 5599981548607}, 4, -1, 2), mean: []int64{2347, -41378, -7203, -47668, 31066, 39710}},
		{start: at(-23029, -18792), sure: 760035, steps: []step{
			{slot: 0, place: at(49947, 49521), sure: 1679},
			{slot: 1, place: at(-47292, -17718), sure: 1597},
			{slot: 2, place: at(-48164, -57829), sure: 31332},
			{slot: 2, weight: 16, gamma: 2415, r: 46502, nearest: 46356, farthest: 46502},
			{slot: 1, weight: 276, gamma: 1245, r: 24468, nearest: 24062, farthest: 24514},
			{slot: 0, weight: 422, gamma: 334, r: 99843, nearest: 99843, farthest: 100071},
			{slot: 1, weight: 399, gamma: 19, r: 24468, nearest: 24468, farthest: 24468},
		}, want: known(8, []int64{60062889, 12387310, -14756918, -13809950, -44236800, 1900800, -309136, -478160, 14505060, -13809950, -12923750, 1900800, -81675, -478160, -739600, 14758597, 13809950, 0, 0, 0, 0, 12925429, 0, 0, 0, 0, 44238397, -1900800, 0, 0, 83272, 0, 0, 340468, 478160, 770932}, []int64{-925550922341, -1908327262903, 2018023663419, 1888529484909, -1083489624012, 46524653907, -27986701840, -42766501748}, 2, 4, 6), mean: []int64{-23027, -18789, 49864, 49443, -47472, -17710, -48201, -57886}},
		{start: at(-12936, -36412), sure: 3409, steps: []step{
			{slot: 2, place: at(-67948, 53206), sure: 2678},
			{slot: 2, weight: 195, gamma: 3685, r: 105556, nearest: 104754, farthest: 105556},
			{slot: 2, weight: 802, gamma: 53, r: 105556, nearest: 105556, farthest: 105556},
			{slot: 2, weight: 540, gamma: 41, r: 105555, nearest: 105555, farthest: 105555},
			{slot: 2, weight: 33, gamma: 46, r: 105555, nearest: 105554, farthest: 105556},
		}, want: known(4, []int64{28194329, -45862840, -28190920, 45862840, 74616089, 45862840, -74612680, 28193598, -45862840, 74615358}, []int64{5682484471328, -9244834787412, -5682710534896, 9244853144572}, -1, -1, 2), mean: []int64{-12844, -36562, -68065, 53397}},
		{start: at(-14536, -2612), sure: 979356, steps: []step{
			{slot: 2, place: at(11267, -38647), sure: 676},
			{slot: 1, place: at(-14556, -41045), sure: 726093},
			{slot: 1, weight: 176, gamma: 2392, r: 38425, nearest: 38414, farthest: 38452},
			{slot: 1, weight: 274, gamma: 17, r: 38426, nearest: 38426, farthest: 38426},
			{slot: 2, weight: 524, gamma: 1441, r: 43945, nearest: 43945, farthest: 44691},
			{slot: 2, weight: 29, gamma: 872, r: 43950, nearest: 43940, farthest: 43950},
		}, want: known(6, []int64{13256509, -17138576, -12277153, 17138576, 0, 0, 54395548, 17138576, -23924992, 0, -29491200, 12277829, -17138576, 0, 0, 23925668, 0, 0, 726093, 0, 30217293}, []int64{-940698640302, 2423976326704, 926470337978, -1293343213084, -10569009708, -1163019804049}, -1, 4, 2), mean: []int64{-14536, -2615, 11050, -38344, -14556, -41041}},
		{start: at(-40799, -37419), sure: 584993, steps: []step{
			{slot: 0, place: at(-57334, -860), sure: 2759},
			{slot: 1, place: at(-84624, -11983), sure: 2171},
			{slot: 2, place: at(73776, -11003), sure: 1979},
			{slot: 2, weight: 630, gamma: 2096, r: 117843, nearest: 117317, farthest: 117843},
			{slot: 1, weight: 516, gamma: 14, r: 50650, nearest: 50650, farthest: 50690},
			{slot: 2, weight: 409, gamma: 2946, r: 117841, nearest: 117841, farthest: 117847},
			{slot: 2, weight: 12, gamma: 772, r: 117851, nearest: 117835, farthest: 117851},
		}, want: known(8, []int64{90950000, 467898, 0, 0, -25201956, 14710644, -65163051, -15178542, 12707313, 0, 0, 14710644, -8586756, -15178542, -3535564, 2759, 0, 0, 0, 0, 0, 2759, 0, 0, 0, 0, 25204127, -14710644, 0, 0, 8588927, 0, 0, 65165030, 15178542, 3537543}, []int64{-6430395325693, -2721208656007, -158184506, -2372740, -1478230314912, 862725165499, 7884720795198, 1836545847411}, 2, 4, 6), mean: []int64{-40800, -37419, -57334, -860, -84607, -11993, 74031, -10944}},
	} {
		s, err := info.New(x.start, x.sure)
		if err != nil {
			t.Errorf("P18.1: New(%v, %d): %v", x.start, x.sure, err)
		}
		for _, y := range x.steps {
			s = takes(t, s, y)
		}
		isState(t, "P18.3: Fuse", s, nil, x.want)
		meanIs(t, s, x.mean...)
	}
}

// metres tells a vehicle at (3000, 4000) and a beacon at (0, 0) in that slot, so surely: 5000 off, by 154 and 205.
func metres(slot int, sure int64) api.State {
	rows := [slots]int{-1, -1, -1}
	rows[slot] = 2
	return placed(even(4, sure), []int64{3000, 4000, 0, 0}, rows)
}

// TestFuseWritten: one range, written down, just as long as foreseen, longer and shorter.
func TestFuseWritten(t *testing.T) {
	for slot := range slots {
		s := metres(slot, 1000)
		for _, off := range []int64{0, 1, -1, 3, -40} {
			y := 256*off + 154*3000 + 205*4000
			v := []int64{3000000 + 2*154*y, 4000000 + 2*205*y, -2 * 154 * y, -2 * 205 * y}
			m := []int64{1000 + 2*154*154, 2 * 154 * 205, -2 * 154 * 154, -2 * 154 * 205, 1000 + 2*205*205, -2 * 154 * 205, -2 * 205 * 205, 1000 + 2*154*154, 2 * 154 * 205, 1000 + 2*205*205}
			fuseIs(t, asked{s, config(2, 1000, 1, edge), slot, 5000 + off}, known(4, m, v, s.Row[:]...))
		}
	}
	far := placed(even(4, 5), []int64{-1000, 0, 0, 0}, [slots]int{-1, 2, -1}) // just a metre, to the other side
	fuseIs(t, asked{far, config(1, 1, 1, edge), 1, 1000}, known(4, []int64{65541, 0, -65536, 0, 5, 0, 0, 65541, 0, 5}, []int64{-65541000, 0, 65536000, 0}, -1, 2, -1))
	fuseIs(t, asked{far, config(1, 9, 1, edge), 1, 999}, known(4, []int64{65541, 0, -65536, 0, 5, 0, 0, 65541, 0, 5}, []int64{-65475464, 0, 65470464, 0}, -1, 2, -1))
}

// TestFuseThird: of beacons that a range isn't from nothing is changed, wherever they are, also where no line leads.
func TestFuseThird(t *testing.T) {
	x := []int64{3000, 4000, 0, 0, top, -top, 3000, 4000}
	for _, rows := range orders() {
		n := sizeOf(rows)
		for slot, row := range rows {
			if row == -1 {
				continue
			}
			y := slices.Clone(x[:n])
			y[2], y[3], y[row], y[row+1] = y[row], y[row+1], 0, 0
			a := asked{placed(even(n, 1), y, rows), open(1), slot, 5003}
			got := fuses(t, a)
			fuseHolds(t, a)
			for other, first := range rows {
				if first == -1 || other == slot {
					continue
				}
				for _, i := range []int{first, first + 1} {
					if got.V[i] != y[i] || got.M.A[index(n, i, i)] != 1 || got.M.A[index(n, 0, i)] != 0 {
						t.Errorf("P18.3: Fuse(%v): %v", a, got)
					}
				}
			}
		}
	}
}

// TestFuseUnits: r, Weight, Gamma at their ends and one past these, and farther; two of them, and all three.
func TestFuseUnits(t *testing.T) {
	s := metres(1, 1)
	for _, weight := range []int64{1, 2, heaviest - 1, heaviest} {
		for _, gamma := range []int64{1, 2, widest - 1, widest} {
			for _, r := range []int64{0, 1, 4999, 5000, 5001, longest - 1, longest} {
				if number := fuseHolds(t, asked{s, config(weight, gamma, 1, edge), 1, r}); number == 27 {
					t.Errorf("P18.3: weight %d, gamma %d, range %d: a measure that may not be", weight, gamma, r)
				}
			}
			for _, r := range outside(0, longest) {
				fuseFails(t, asked{s, config(weight, gamma, 1, edge), 1, r}, 27)
			}
		}
	}
	for _, v := range outside(1, heaviest) {
		for _, w := range []int64{1, 100, widest} {
			for _, r := range []int64{0, 5000, longest} {
				fuseFails(t, asked{s, config(v, w, 1, edge), 1, r}, 27)
				fuseFails(t, asked{s, config(w, v, 1, edge), 1, r}, 27)
			}
		}
		for _, w := range outside(0, longest) {
			fuseFails(t, asked{s, config(v, 9, 1, edge), 1, w}, 27)
			fuseFails(t, asked{s, config(9, v, 1, edge), 1, w}, 27)
			fuseFails(t, asked{s, config(v, v, 1, edge), 1, w}, 27)
		}
		for _, w := range outside(1, widest) {
			fuseFails(t, asked{s, config(v, w, 1, edge), 1, 5000}, 27)
		}
	}
}

// TestFuseUnitsFirst: a measure just one past its end is told ahead of what the mean, the line, the gate and the bounds have to say.
func TestFuseUnitsFirst(t *testing.T) {
	s := metres(1, 1000)
	for _, s := range []api.State{s, with(s, 0, 0, 0), told(s, 0, 0), told(s, 0, 3000*1000+5000*1000*1000), placed(even(4, 1), []int64{9, 9, 9, 9}, s.Row), {M: even(4, 1), V: []int64{top, top, 0, 0}, Row: s.Row}} {
		for _, x := range []struct{ weight, gamma, r int64 }{{0, 1, 5000}, {heaviest + 1, 1, 5000}, {1, 0, 5000}, {1, widest + 1, 5000}, {1, 1, -1}, {1, 1, longest + 1}} {
			fuseFails(t, asked{s, config(x.weight, x.gamma, 1, edge), 1, x.r}, 27)
			fuseFails(t, asked{s, config(x.weight, x.gamma, edge, -edge), 1, x.r}, 27)
		}
	}
}

// TestFuseOtherFields: of a configuration weight, gamma and the bounds count alone.
func TestFuseOtherFields(t *testing.T) {
	a := asked{metres(0, 1000), config(2, 1000, 1, edge), 0, 5003}
	want := fuses(t, a)
	for _, v := range []int64{math.MinInt64, -1, 1, math.MaxInt64} {
		a.c = api.Config{Start: at(v, v), Sure: v, Weight: 2, Stiff: v, Gamma: 1000, Least: 1, Most: edge, Base: v, Near: v, Depth: v, Patience: uint32(v)}
		fuseIs(t, a, want)
	}
}

// TestFuseLoose: a matrix that isn't definite, whatever else there is.
func TestFuseLoose(t *testing.T) {
	for _, rows := range orders() {
		n := sizeOf(rows)
		s := spread(rows, 3)
		for slot, row := range rows {
			if row == -1 {
				continue
			}
			for i := range n {
				for _, v := range []int64{0, -1, -edge} {
					fuseFails(t, asked{with(s, i, i, v), open(3), slot, 5000}, 30)
					fuseFails(t, asked{with(s, i, i, v), config(3, 3, edge, -edge), slot, longest}, 30)
				}
				if i > 0 {
					fuseFails(t, asked{with(s, 0, i, 3), open(3), slot, 5000}, api.ErrLoose)
					fuseHolds(t, asked{with(s, 0, i, 2), open(3), slot, 5000})
				}
			}
		}
	}
}

// TestFuseMeanOver: a number of the mean that is too great, of any place, one past MaxVector and farther.
func TestFuseMeanOver(t *testing.T) {
	for _, rows := range orders() {
		n := sizeOf(rows)
		for slot, row := range rows {
			if row == -1 {
				continue
			}
			for i := 0; i < n; i += 2 {
				s := spread(rows, 2)
				for _, v := range []int64{top, -top} { // by 2, -1, 1 the second number of this place is v and 2 more
					over := told(told(with(with(s, i, i+1, -1), i+1, i+1, 1), i, v), i+1, v/top)
					fuseFails(t, asked{over, open(3), slot, 5000}, 21)
					fuseFails(t, asked{over, open(3), slot, longest}, 21)
					fuseHolds(t, asked{told(over, i, v-2*v/top), open(3), slot, 5000})
				}
			}
		}
	}
}
