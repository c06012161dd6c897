package wide

import (
	"math"
	"math/bits"

	"leadline/api"
)

// divide tells how often y, which isn't 0, is in x, and the rest; all numbers without a sign.
func divide(x, y api.Wide) (api.Wide, api.Wide) {
	if order(x, y) < 0 {
		return api.Wide{}, x
	}
	if length(y) == 1 {
		return divideShort(x, y[0])
	}
	return divideLong(x, y)
}

// divideShort divides by a number of one limb.
func divideShort(x api.Wide, y uint64) (api.Wide, api.Wide) {
	var quotient, rest api.Wide
	for i := length(x) - 1; i >= 0; i-- {
		quotient[i], rest[0] = bits.Div64(rest[0], x[i], y) // doesn't panic: the rest is always below y
	}
	return quotient, rest
}

// divideLong divides by a number of two limbs or more that isn't above x, as by hand, limb by limb from above.
// Both are moved to the left till y's highest bit is set: so a limb that is guessed from the highest ones is too great by two at most, and never too small.
func divideLong(x, y api.Wide) (api.Wide, api.Wide) {
	n, m := length(x), length(y)
	by := uint(bits.LeadingZeros64(y[m-1]))
	rest, part := left(x, by), left(y, by)
	var quotient api.Wide
	for i := n - m; i >= 0; i-- {
		limb := guess(rest[i+m], rest[i+m-1], part[m-1])
		over := takeOff(rest[i:i+m+1], part[:m], limb)
		for over {
			limb--
			over = !putBack(rest[i:i+m+1], part[:m])
		}
		quotient[i] = limb
	}
	return quotient, right(rest, by)
}

// guess tells how often y is in the two limbs high and low; where a limb hasn't that, the greatest one.
func guess(high, low, y uint64) uint64 {
	if high >= y {
		return math.MaxUint64
	}
	limb, _ := bits.Div64(high, low, y)
	return limb
}

// takeOff takes limb times y off x, which has one limb more than y; true, if that was too much: then x has gone round.
func takeOff(x, y []uint64, limb uint64) bool {
	var low, carry, borrow uint64
	for i := range y {
		low, carry = step(limb, y[i], carry, 0)
		x[i], borrow = bits.Sub64(x[i], low, borrow)
	}
	last := len(y)
	x[last], borrow = bits.Sub64(x[last], carry, borrow)
	return borrow != 0
}

// putBack adds y to x, which has one limb more; true, if x has gone round by that, and so is what it is again.
func putBack(x, y []uint64) bool {
	var carry uint64
	for i := range y {
		x[i], carry = bits.Add64(x[i], y[i], carry)
	}
	last := len(y)
	x[last], carry = bits.Add64(x[last], 0, carry)
	return carry != 0
}
