package sound_test

import "testing"

// TestSpeedKnown: speeds that another program reckoned.
func TestSpeedKnown(t *testing.T) {
	for _, x := range []struct{ temp, salt, depth, want int64 }{
		{0, 3500, 0, 1449200},
		{0, 0, 0, 1402300},
		{-500, 0, 0, 1376139}, // the slowest
		{-500, 4500, 0, 1438689},
		{4500, 0, 0, 1540101},
		{4500, 4500, 0, 1580151},
		{-500, 0, 1000000, 1392139},
		{-500, 4500, 1000000, 1454689},
		{4500, 0, 1000000, 1556101},
		{4500, 4500, 1000000, 1596151}, // the fastest
		{1000, 3500, 0, 1489990},
		{2500, 3500, 0, 1534356},
		{2500, 3500, 1000, 1534372},
		{1234, 3456, 78901, 1498861},
		{-1, 3500, 0, 1449154},
		{-1, 3499, 0, 1449141},
		{1, 3501, 1, 1449259},
		{-123, 4321, 999999, 1470560},
		{4499, 1, 999999, 1556092},
		{-499, 4499, 1, 1438725},
		{800, 3400, 500000, 1489368},
		{1500, 3520, 12345, 1507240},
		{400, 3550, 0, 1467389},
		{400, 3450, 0, 1466089},
		{120, 3500, 0, 1454642},
		{-120, 3500, 0, 1443600},
		{-150, 3500, 0, 1442175},
		{-151, 3500, 0, 1442128},
	} {
		speedIs(t, x.temp, x.salt, x.depth, x.want)
	}
}

// TestSpeedHalves: what is just a half goes up, also below nought.
func TestSpeedHalves(t *testing.T) {
	for _, x := range []struct{ temp, salt, depth, want int64 }{
		{-100, 3501, 0, 1444559},     // 13.5 more: 14
		{-100, 3499, 0, 1444532},     // 13.5 less: 13
		{-100, 3500, 0, 1444545},     // just between
		{3400, 3550, 0, 1553918},     // 500: whole
		{4400, 3500, 0, 1569823},     // the cold alone
		{4400, 3550, 0, 1570273},     // 450: whole
		{4400, 3450, 0, 1569373},     // less 450: whole
		{-500, 3535, 0, 1425276},     // 486.5 more: 487
		{-500, 3465, 0, 1424303},     // 486.5 less: 486
		{-500, 3500, 0, 1424789},     // neither
		{900, 3499, 0, 1486344},      // 12.5 less: 12
		{900, 3501, 0, 1486369},      // 12.5 more: 13
		{900, 3500, 0, 1486356},      // neither
		{900, 3499, 31, 1486344},     // 0.496 for the depth: 0
		{900, 3499, 32, 1486345},     // 0.512: 1
		{900, 3499, 93, 1486345},     // 1.488: 1
		{900, 3499, 94, 1486346},     // 1.504: 2
		{900, 3499, 999969, 1502344}, // 15999.504: 16000
		{900, 3499, 999968, 1502343}, // 15999.488: 15999
	} {
		if fast(x.temp, x.salt, x.depth) != x.want {
			t.Errorf("P13.1: the chapter's of %v is %d", x, fast(x.temp, x.salt, x.depth))
		}
		speedIs(t, x.temp, x.salt, x.depth, x.want)
	}
}

// TestSpeedParts: each part of the sum is rounded by itself: what is taken off is rounded ahead of that.
func TestSpeedParts(t *testing.T) {
	for _, x := range []struct{ temp, salt, depth, want int64 }{
		{9, 3500, 0, 1449614},     // 0.4455 off: 0
		{10, 3500, 0, 1449659},    // 0.55 off: 1
		{-9, 3500, 0, 1448786},    // 0.4455 off: 0
		{-10, 3500, 0, 1448739},   // 0.55 off: 1
		{120, 3500, 0, 1454642},   // 79.2 off: 79; 0.50112 more: 1
		{119, 3500, 0, 1454596},   // 77.8855 off: 78; 0.48869 more: 0
		{-120, 3500, 0, 1443600},  // 0.50112 less: 1
		{-119, 3500, 0, 1443648},  // 0.48869 less: 0
		{10, 3537, 30, 1450154},   // 0.55 off: 1; 495.43 more: 495; 0.48 more: 0
		{10, 3537, 40, 1450155},   // 0.64 more: 1
		{10, 3463, 40, 1449165},   // 495.43 less: 495
		{4, 3463, 40, 1448889},    // 0.088 off: 0; 495.652 less: 496
		{-500, 3500, 0, 1424789},  // 1375 off; 36.25 less: 36
		{4500, 3500, 0, 1571251},  // 111375 off; 26426.25 more: 26426
		{4499, 3500, 31, 1571237}, // 111325.5055 off: 111326; 26408.636 more: 26409
	} {
		if fast(x.temp, x.salt, x.depth) != x.want {
			t.Errorf("P13.1: the chapter's of %v is %d", x, fast(x.temp, x.salt, x.depth))
		}
		speedIs(t, x.temp, x.salt, x.depth, x.want)
	}
}

// TestSpeedEachCold: all colds, at salts and depths at their ends and between.
func TestSpeedEachCold(t *testing.T) {
	for temp := int64(-500); temp <= 4500; temp++ {
		for _, salt := range []int64{0, 1, 3499, 3500, 3501, 4500} {
			depth := (temp + 500) * 199
			speedIs(t, temp, salt, depth, fast(temp, salt, depth))
		}
	}
}

// TestSpeedEachSalt: all salts, at colds at their ends and where products are just halves.
func TestSpeedEachSalt(t *testing.T) {
	for salt := int64(0); salt <= 4500; salt++ {
		for _, temp := range []int64{-500, -100, -1, 0, 900, 4400, 4500} {
			speedIs(t, temp, salt, salt, fast(temp, salt, salt))
		}
	}
}

// TestSpeedEachDepth: depths, one in some, and all at both ends.
func TestSpeedEachDepth(t *testing.T) {
	for depth := int64(0); depth <= 1000000; depth++ {
		if depth > 2000 && depth < 998000 && depth%61 != 0 {
			continue
		}
		speedIs(t, 1234, 3456, depth, fast(1234, 3456, depth))
	}
}

// TestSpeedEnds: all three measures at their ends and beside them, and by chance.
func TestSpeedEnds(t *testing.T) {
	for _, temp := range coldSpan().within() {
		for _, salt := range append(saltSpan().within(), 3499, 3500, 3501) {
			for _, depth := range deepSpan().within() {
				speedIs(t, temp, salt, depth, fast(temp, salt, depth))
			}
		}
	}
	d := thrown(1)
	for range 20000 {
		temp, salt, depth := coldSpan().some(d), saltSpan().some(d), deepSpan().some(d)
		speedIs(t, temp, salt, depth, fast(temp, salt, depth))
	}
}

// TestSpeedUnits: one measure that may not be, the others as they may.
func TestSpeedUnits(t *testing.T) {
	for _, salt := range saltSpan().within() {
		for _, depth := range deepSpan().within() {
			for _, temp := range coldSpan().outside() {
				speedFails(t, temp, salt, depth)
			}
		}
	}
	for _, temp := range coldSpan().within() {
		for _, depth := range deepSpan().within() {
			for _, salt := range saltSpan().outside() {
				speedFails(t, temp, salt, depth)
			}
		}
		for _, salt := range saltSpan().within() {
			for _, depth := range deepSpan().outside() {
				speedFails(t, temp, salt, depth)
			}
		}
	}
}

// TestSpeedUnitsAtOnce: two measures that may not be, and all three.
func TestSpeedUnitsAtOnce(t *testing.T) {
	for _, salt := range saltSpan().outside() {
		for _, depth := range deepSpan().outside() {
			speedFails(t, 1000, salt, depth)
		}
	}
	for _, temp := range coldSpan().outside() {
		for _, salt := range saltSpan().outside() {
			speedFails(t, temp, salt, 1000)
			for _, depth := range deepSpan().outside() {
				speedFails(t, temp, salt, depth)
			}
		}
		for _, depth := range deepSpan().outside() {
			speedFails(t, temp, 1000, depth)
		}
	}
}
