package motion_test

import (
	"math"
	"testing"

	"leadline/api"
)

// TestExample holds the chapter's own: behind a very stiff motion nearly as much is known.
func TestExample(t *testing.T) {
	predictIs(t, open(alone(100, 0, 100, 1000, -2000), at(0, 0), stiffest), alone(100, 0, 100, 1000, -2000))
	predictIs(t, open(alone(100, 7, 300, 1000, -2000), at(5, -3), stiffest), alone(100, 7, 300, 1479, -2864)) // V is M times u more, nearly: -2865
	s := known(4, []int64{300, -20, -280, 10, 200, 30, -90, 500, 0, 400}, []int64{9000, 4000, -70000, 80000}, -1, 2, -1)
	predictIs(t, open(s, at(0, 0), stiffest), known(4, []int64{300, -20, -280, 10, 200, 30, -90, 500, 0, 400}, []int64{8998, 3999, -69998, 80000}, -1, 2, -1))
}

// TestKnown: states of no beacon up to all of them, motions, and what is known then, as another program reckoned it by the inverse of the matrix: there a motion is one over stiff more on the vehicle's diagonal, and u more of its mean.
func TestKnown(t *testing.T) {
	for _, x := range []struct {
		s     api.State
		u     api.Point
		stiff int64
		want  api.State
	}{
		{known(2, []int64{9081, 7215, 10250}, []int64{-248888805, -17608425}, -1, -1, -1), at(-132, 1337), 7,
			known(2, []int64{7, 0, 7}, []int64{-413469, 287529}, -1, -1, -1)},
		{known(4, []int64{11449, 1943, 5868, 2090, 20471, 4991, -10223, 15717, -10892, 17517}, []int64{-1423321151, -3118446828, -3085099592, 3002703267}, -1, 2, -1), at(-878, 1623), 40000,
			known(4, []int64{8863, 1000, 4443, 1883, 13509, 3159, -6823, 14671, -10317, 15675}, []int64{-1036094440, -2008632278, -2679529156, 2525056058}, -1, 2, -1)},
		{known(6, []int64{2379007, -923350, -1066868, 46962, 1341662, 1600661, 1997280, 978665, 1759841, -1031644, -1257290, 2299499, 525576, -702186, -949478, 2859162, -1033546, -169608, 2171240, 1326462, 1831871}, []int64{131219101286, -180822399614, -196533546009, -202552933478, 144593054416, 102391136254}, 4, -1, 2), at(-1924, 3371), 1048576,
			known(6, []int64{699266, -105893, -256570, 193366, 342762, 406254, 655488, 259139, 664467, -251249, -309683, 1796591, 102150, -118947, -247102, 1735316, -627222, 331943, 1485482, 501974, 840397}, []int64{23749556442, -52121363842, -118371642730, -110298447520, 56866535108, -3676648679}, 4, -1, 2)},
		{known(8, []int64{1472017, 944674, -1704437, 771832, 282699, -117850, 38973, -811871, 4131525, -2666596, -132294, -1189496, 1066653, -471290, 871705, 3415052, -654501, 717257, -267938, -474496, -592711, 3055179, 2686815, 336706, 738636, 488697, 4761464, -1079647, 560969, -496458, 2006332, 872215, 1015247, 2904957, 904666, 3201059}, []int64{27119854091, 190781054915, -214224178782, 275939256069, 251374985162, 91810447506, 256124887198, 314328192290}, 4, 6, 2), at(3344, -454), 40000,
			known(8, []int64{38767, 279, -33913, 24707, 17012, -11075, 4490, -31100, 39553, -17890, -6864, -15258, 12736, -5536, 15402, 777364, -59281, 424951, 109193, -652232, -891184, 2555741, 2308095, 592525, 633695, 1139742, 4187491, -622643, 364617, 181345, 1634083, 1033063, 512915, 2835358, 1116433, 2234182}, []int64{-366109212, 1924578458, -106011603274, 292009948445, 312679788930, 38532012740, 279501752460, 261845088688}, 4, 6, 2)},
		{known(8, []int64{20853, -6818, 5894, 15101, 10955, -6818, 10000, -3526, 13899, -11216, -6740, -11683, -3179, -4492, 5864, 39828, 16835, 23959, 12350, -7746, -28134, 16676, 15495, -1990, 3454, -14359, 22904, -5798, -3052, -19062, 36387, 7837, -2273, 24011, 10137, 31139}, []int64{-1363391917, 498214183, -2507376251, -2081978348, -2037928356, 10720231, -315433739, 2695768928}, 2, 4, 6), at(636, -3331), 500,
			known(8, []int64{486, -7, 16, 329, 150, -230, 217, -21, 480, -382, -78, -335, -219, -53, 194, 31073, 11202, 14684, 10142, -11498, -23542, 5695, 6463, 1991, -3822, -11122, 11802, -5887, -9052, -14080, 31863, 10461, -1322, 19190, 12292, 28720}, []int64{-30772664, 971051, -2081736397, -1107437400, -1295126259, -396468880, 330066319, 2445596098}, 2, 4, 6)},
		{known(2, []int64{5993, 6539, 9490}, []int64{452475066, 471973895}, -1, -1, -1), at(-2262, 970), 1048576,
			known(2, []int64{5919, 6444, 9365}, []int64{439882248, 459486317}, -1, -1, -1)},
		{known(4, []int64{227193660, 41355081, 79809219, -102942, 625101961, 516439371, 250697871, 472663529, 163340171, 420132310}, []int64{13474422369200, -8826861517986, -587106337500, -20728574252251}, -1, 2, -1), at(-1337, -2578), 1048576,
			known(4, []int64{1043700, 322, 212496, -77468, 1046799, 850815, 424945, 37451024, -40055278, 318527124}, []int64{63967590696, -21797939202, 3841917866894, -16156914702698}, -1, 2, -1)},
		{known(6, []int64{2723094, 275056, 1715665, 1292576, -270558, 1028345, 1179060, -435203, 614236, -452988, 184046, 1566558, 833449, 100492, 383503, 2951251, -1604414, -403847, 1527800, 79198, 1041891}, []int64{-231027271238, -141773024784, -62799572883, -264638869488, 215759361870, -103135584089}, 4, -1, 2), at(2756, -2276), 40000,
			known(6, []int64{39408, 134, 26862, 17090, -2493, 14614, 38657, -20341, 16299, -14301, 2742, 193106, 277779, 51830, -213484, 2148734, -1304245, -918188, 1348982, 209094, 653572}, []int64{-2839295931, -4074430347, 20371230473, -108157841765, 150698147647, -8978894415}, 4, -1, 2)},
		{known(8, []int64{24330, -20871, -1484, 14355, 5262, 760, 19909, -3234, 34252, -6605, -469, 3416, -6448, -19132, 1972, 16537, -4279, -9108, 8594, -6060, 2391, 39138, 9890, -10154, 19866, 83, 35188, 16370, 1944, -16911, 31099, -12403, -8741, 29615, 1718, 20471}, []int64{1156521663, -2802074433, 1762146753, -1514064413, -222403780, 2593082672, -266349709, -412257210}, 4, 6, 2), at(2589, -568), 1032054,
			known(8, []int64{23380, -19743, -1577, 14021, 5208, 619, 19092, -3123, 32765, -6424, -180, 3408, -6229, -18144, 1848, 16494, -4260, -9079, 8555, -6149, 2398, 38943, 9819, -10165, 19592, 127, 35150, 16387, 1907, -16901, 31060, -12530, -8727, 28910, 1812, 20458}, []int64{1148463136, -2760716306, 1746039508, -1493861641, -207438563, 2580618829, -277270519, -412876311}, 4, 6, 2)},
		{known(8, []int64{1722739, 963450, 280100, 274425, -643729, -686270, -331830, 634923, 2726541, 995434, 1077736, -1293152, 14735, 814292, 307912, 4105812, 962158, -1048220, -828566, -732827, 76261, 2203763, -2067269, 1022779, 1334950, 1390889, 4026563, -460104, -309296, -2303789, 2159679, 1338315, 644654, 2422013, 483486, 1775830}, []int64{-63995188749, -10790816315, -98351187034, 56475326960, -81632450965, 153467009713, 52537009746, 60512258405}, 2, 4, 6), at(-2522, -782), 40000,
			known(8, []int64{38879, 390, -1865, -2828, -5420, -19378, -17248, 14789, 39286, 15042, 16567, -16810, 6961, 17780, -698, 3744539, 569670, -591948, -866112, -1054519, -9920, 1776786, -1577179, 968160, 974227, 1308244, 3395907, -546901, -12063, -2088361, 1824658, 1035850, 898650, 1916977, 620394, 1546453}, []int64{-1786602639, 400207559, -97284848933, 56414695933, -94811689673, 124386538596, 29768754471, 83948355349}, 2, 4, 6)},
	} {
		predictIs(t, open(x.s, x.u, x.stiff), x.want)
		predictHolds(t, open(x.s, x.u, x.stiff))
	}
}

// links tells states with these rows: no links; the vehicle linked to each beacon; beacons to one another; all to all; the first coordinates alone; the vehicle's own two.
func links(rows [slots]int) []api.State {
	n := sizeOf(rows)
	var l []api.State
	for _, linked := range []func(i, j int) bool{
		func(i, j int) bool { return false },
		func(i, j int) bool { return i < 2 && j >= 2 },
		func(i, j int) bool { return i >= 2 },
		func(i, j int) bool { return true },
		func(i, j int) bool { return (i+j)%2 == 0 },
		func(i, j int) bool { return j < 2 },
		func(i, j int) bool { return i == 1 && j == n-1 },
	} {
		m := laid(n, func(i, j int) int64 {
			if i == j {
				return int64(5000 + 77*i)
			}
			if !linked(i, j) {
				return 0
			}
			return int64(300+13*i+5*j) * int64(1-(i+j)/2%2*2) // some of them below nought
		})
		l = append(l, placed(m, []int64{1000, -2000, -50001, 60003, 70000, 80000, 90000, -100007}[:n], rows))
	}
	return l
}

// motions tells coordinates of a motion that may be: the ends, those beside them, nought, some between.
func motions() []int64 {
	return []int64{-farthest, 1 - farthest, -1234567, -1, 0, 1, 1000, farthest - 1, farthest}
}

// stiffs tells how stiff a motion may be.
func stiffs() []int64 {
	return []int64{1, 2, 3, 999, stiffest / 2, stiffest - 1, stiffest}
}

// TestOrdinary: states of no beacon up to all, their rows in each order, linked in each way, by all sorts of motions.
func TestOrdinary(t *testing.T) {
	for _, rows := range orders() {
		for _, s := range links(rows) {
			for _, stiff := range stiffs() {
				for _, u := range []api.Point{at(0, 0), at(700, -300), at(-farthest, farthest)} {
					if number := predictHolds(t, open(s, u, stiff)); number != 0 {
						t.Errorf("P19.1: Predict(%v, %v, %d): %v", s, u, stiff, number)
					}
				}
			}
		}
	}
}

// TestMotions: all coordinates and stiffs that may be, with one another.
func TestMotions(t *testing.T) {
	for _, s := range []api.State{alone(1000, -300, 2000, 77777, -123456), links(rowsOf(4))[1], links(rowsOf(8))[3]} {
		for _, x := range motions() {
			for _, y := range motions() {
				for _, stiff := range stiffs() {
					if number := predictHolds(t, open(s, at(x, y), stiff)); number != 0 {
						t.Errorf("P19.1: Predict(%v, %d, %d, %d): %v", s, x, y, stiff, number)
					}
				}
			}
		}
	}
}

// TestUnits: a coordinate, or how stiff, one past the end and farther; two of them, and all three.
func TestUnits(t *testing.T) {
	for _, s := range []api.State{alone(9, 2, 7, 5, -5), spread(rowsOf(8), 5), placed(even(4, -edge), make([]int64, 4), rowsOf(4))} {
		for _, v := range outside(-farthest, farthest) {
			for _, stiff := range stiffs() {
				predictFails(t, open(s, at(v, 5), stiff), api.ErrUnits)
				predictFails(t, open(s, at(farthest, v), stiff), 27)
				predictFails(t, open(s, at(v, v), stiff), 27)
			}
			for _, stiff := range outside(1, stiffest) {
				predictFails(t, open(s, at(v, 0), stiff), 27)
				predictFails(t, open(s, at(v, -v), stiff), 27)
			}
		}
		for _, stiff := range outside(1, stiffest) {
			for _, x := range motions() {
				predictFails(t, open(s, at(x, 0), stiff), 27)
				predictFails(t, open(s, at(0, x), stiff), 27)
			}
		}
		predictFails(t, open(s, at(0, 0), 0), 27)
		predictFails(t, open(s, at(0, 0), -1), 27)
		predictFails(t, open(s, at(0, 0), 1048577), 27)
		predictFails(t, open(s, at(4194305, 0), 1), 27)
		predictFails(t, open(s, at(0, -4194305), 1), 27)
		predictFails(t, asked{s, at(0, 0), 0, math.MaxInt64, math.MinInt64}, 27)
	}
}

// TestHalves: fractions that are just halves: of two numbers the greater one is told, below nought too.
func TestHalves(t *testing.T) {
	const k = 1
	// one and a half the vehicle's: 1 and 1 on the diagonal: half of each number, 2 less 1 over 2
	predictIs(t, open(alone(1, 0, 1, 3, -3), at(0, 0), k), alone(1, 0, 1, 2, -1))
	predictIs(t, open(alone(1, 0, 1, 3, -3), at(2, -2), k), alone(1, 0, 1, 3, -2)) // 2 and (3 - 2) over 2, -2 and (-3 + 2) over 2
	// 3, 1, 1 with stiff on it, whose determinant is 2: 1 less 1 over 2, 1 over 2, 1 less 3 over 2
	predictIs(t, open(alone(2, 1, 0, 0, 0), at(0, 0), k), alone(1, 1, 0, 0, 0))
	predictIs(t, open(alone(2, -1, 0, 0, 0), at(0, 0), k), alone(1, 0, 0, 0, 0)) // -1 over 2
	predictIs(t, open(alone(2, 1, 0, 4, 1), at(0, 0), k), alone(1, 1, 0, 2, 0))  // (4 - 1) over 2, (-4 + 3) over 2
	// 3 less 9 over 2 on the diagonal
	predictIs(t, open(alone(-1, 0, -1, 1, -1), at(0, 0), 3), alone(-1, 0, -1, 2, -1))
	// a beacon: half of what links it to the vehicle; less by the half of a link's square, of two links' product
	s := known(4, []int64{1, 0, 3, -3, 1, -1, 5, 5, 4, 7}, []int64{3, -1, 10, 20}, 2, -1, -1)
	predictIs(t, open(s, at(0, 0), k), known(4, []int64{1, 0, 2, -1, 1, 0, 3, 0, 11, -10}, []int64{2, 0, 5, 27}, 2, -1, -1))
	s = known(4, []int64{1, 0, 3, 0, 1, 0, 5, 5, 4, 7}, []int64{3, -1, 10, 20}, -1, -1, 2)
	predictIs(t, open(s, at(0, 0), k), known(4, []int64{1, 0, 2, 0, 1, 0, 3, 1, 4, -5}, []int64{2, 0, 6, 23}, -1, -1, 2))
}
