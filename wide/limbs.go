package wide

import (
	"math/bits"

	"leadline/api"
)

// limbBits: bits of a limb.
const limbBits = 64

// long: a Wide's limbs, and one more above them.
type long [api.Limbs + 1]uint64

// The functions below, but for minus and signed, take limbs for a number without a sign: so the least Wide's amount is a number like any other.

// minus tells whether a is below 0.
func minus(a api.Wide) bool {
	return a[api.Limbs-1]>>(limbBits-1) != 0
}

// signed tells the number of amount x, below 0 if negative; false (0), if a Wide hasn't it.
func signed(x api.Wide, negative bool) (api.Wide, bool) {
	a := x
	if negative {
		a = less(api.Wide{}, x)
	}
	if minus(a) != negative && x != (api.Wide{}) { // nought has no sign
		return api.Wide{}, false
	}
	return a, true
}

// amount tells a without its sign.
func amount(a api.Wide) api.Wide {
	if minus(a) {
		return less(api.Wide{}, a)
	}
	return a
}

// plus tells x and y together, round 2 to the 1024. (x is a copy: it takes the sum.)
func plus(x, y api.Wide) api.Wide {
	var carry uint64
	for i := range x {
		x[i], carry = bits.Add64(x[i], y[i], carry)
	}
	return x
}

// less tells x less y, round 2 to the 1024. (x is a copy: it takes the rest.)
func less(x, y api.Wide) api.Wide {
	var borrow uint64
	for i := range x {
		x[i], borrow = bits.Sub64(x[i], y[i], borrow)
	}
	return x
}

// order tells -1, 0 or 1: whether x is less than, the same as, or more than y.
func order(x, y api.Wide) int {
	for i := api.Limbs - 1; i >= 0; i-- {
		if x[i] < y[i] {
			return -1
		}
		if x[i] > y[i] {
			return 1
		}
	}
	return 0
}

// length tells how many limbs x has, without the noughts above.
func length(x api.Wide) int {
	n := api.Limbs
	for n > 0 && x[n-1] == 0 {
		n--
	}
	return n
}

// size tells how many bits x has, without the noughts above.
func size(x api.Wide) int {
	n := length(x)
	if n == 0 {
		return 0
	}
	return limbBits*(n-1) + bits.Len64(x[n-1])
}

// times tells x times y; false (0), if 1024 bits haven't it.
func times(x, y api.Wide) (api.Wide, bool) {
	n, m := length(x), length(y)
	if n+m > api.Limbs+1 { // even the least product of such lengths is too great
		return api.Wide{}, false
	}
	var sum long
	for i := range n {
		var carry uint64
		for k := range m {
			sum[i+k], carry = step(x[i], y[k], sum[i+k], carry)
		}
		sum[i+m] = carry
	}
	if sum[api.Limbs] != 0 {
		return api.Wide{}, false
	}
	return right(sum, 0), true
}

// step tells x y + a + b: its limb, and what is carried. (Two limbs have even the greatest such sum.)
func step(x, y, a, b uint64) (uint64, uint64) {
	high, low := bits.Mul64(x, y)
	low, carry := bits.Add64(low, a, 0)
	high += carry
	low, carry = bits.Add64(low, b, 0)
	return low, high + carry
}

// left tells x moved to the left by fewer bits than a limb has. (By none, a limb's neighbour gives nothing: all its bits go out.)
func left(x api.Wide, by uint) long {
	var moved long
	for i := range x {
		moved[i] |= x[i] << by
		moved[i+1] = x[i] >> (limbBits - by)
	}
	return moved
}

// right tells x moved to the right by fewer bits than a limb has; what is above a Wide then is let go.
func right(x long, by uint) api.Wide {
	var moved api.Wide
	for i := range moved {
		moved[i] = x[i]>>by | x[i+1]<<(limbBits-by)
	}
	return moved
}
