package angle

// maxSide: the greatest amount of Atan's numbers: times a sine it still fits into an int64.
const maxSide = 1 << 40

// Atan tells the angle from x's side towards y's; false (0), if an amount is above 2^40.
func Atan(y, x int64) (uint16, bool) {
	if far(y) || far(x) {
		return 0, false
	}
	switch {
	case x < 0 && y < 0:
		return half + steep(-y, -x), true
	case x < 0:
		return half - steep(y, -x), true
	case y < 0:
		return -steep(-y, x), true // a whole turn is nought
	default:
		return steep(y, x), true
	}
}

// far tells whether v is too great; it is asked on both sides, as the least int64 has no amount.
func far(v int64) bool {
	return v < -maxSide || v > maxSide
}

// steep tells Atan of numbers that aren't below 0, bit by bit from above.
func steep(y, x int64) uint16 {
	if y == 0 {
		return 0
	}
	if x == 0 {
		return quarter
	}
	var a uint16
	for part := uint16(quarter >> 1); part > 0; part >>= 1 {
		if sum := a + part; y*Cos(sum) >= x*Sin(sum) {
			a = sum
		}
	}
	return a
}
