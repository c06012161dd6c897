// Package wide: Numbers of 1024 bits: see doc/01-wide.md.
package wide

import "leadline/api"

// Of tells v, as wide as that.
func Of(v int64) api.Wide {
	var a api.Wide
	above := uint64(v >> 63) // the sign, in every bit of the limbs above
	for i := range a {
		a[i] = above
	}
	a[0] = uint64(v)
	return a
}

// Int64 tells a; false (0), if an int64 hasn't it.
func Int64(a api.Wide) (int64, bool) {
	v := int64(a[0])
	if a != Of(v) {
		return 0, false
	}
	return v, true
}

// Sign tells -1, 0 or 1.
func Sign(a api.Wide) int {
	if minus(a) {
		return -1
	}
	if a == (api.Wide{}) {
		return 0
	}
	return 1
}

// Bits tells how many bits a's amount has.
func Bits(a api.Wide) int {
	return size(amount(a))
}

// Cmp tells -1, 0 or 1: whether a is less than, the same as, or more than b.
func Cmp(a, b api.Wide) int {
	if minus(a) && !minus(b) {
		return -1
	}
	if minus(b) && !minus(a) {
		return 1
	}
	return order(a, b) // of one sign, numbers are in the order of their limbs, below nought too
}

// Add tells a and b together; false (0), if a Wide hasn't it.
func Add(a, b api.Wide) (api.Wide, bool) {
	sum := plus(a, b)
	if minus(a) == minus(b) && minus(sum) != minus(a) {
		return api.Wide{}, false
	}
	return sum, true
}

// Sub tells a less b; false (0), if a Wide hasn't it.
func Sub(a, b api.Wide) (api.Wide, bool) {
	rest := less(a, b)
	if minus(a) != minus(b) && minus(rest) != minus(a) {
		return api.Wide{}, false
	}
	return rest, true
}

// Mul tells a times b; false (0), if a Wide hasn't it.
func Mul(a, b api.Wide) (api.Wide, bool) {
	product, ok := times(amount(a), amount(b))
	if !ok {
		return api.Wide{}, false
	}
	return signed(product, minus(a) != minus(b))
}

// Div tells how often b is in a, towards nought, and the rest, of a's sign; false (noughts) of b 0, or if a Wide hasn't the quotient.
func Div(a, b api.Wide) (api.Wide, api.Wide, bool) {
	if b == (api.Wide{}) {
		return api.Wide{}, api.Wide{}, false
	}
	q, r := divide(amount(a), amount(b))
	quotient, ok := signed(q, minus(a) != minus(b))
	if !ok {
		return api.Wide{}, api.Wide{}, false
	}
	rest, _ := signed(r, minus(a)) // below b's amount, so there is room
	return quotient, rest, true
}

// Round tells the whole number nearest to a over b, of two the greater one; false (0), unless b is above 0 and 2 a, 2 b, 2 a + b fit.
func Round(a, b api.Wide) (api.Wide, bool) {
	if Sign(b) <= 0 {
		return api.Wide{}, false
	}
	twiceA, okA := Add(a, a)
	twiceB, okB := Add(b, b)
	sum, ok := Add(twiceA, b)
	if !okA || !okB || !ok {
		return api.Wide{}, false
	}
	quotient, rest, _ := Div(sum, twiceB) // there is a quotient: 2 b is above 1
	if Sign(rest) < 0 {
		return Sub(quotient, Of(1)) // Div goes towards nought, but half of b was added so that the lower one is the nearest
	}
	return quotient, true
}
