package fx

import "math/bits"

// double: a number of 128 bits without a sign, in two halves.
type double struct{ high, low uint64 }

// moved tells x moved to the left by two bits, with these two behind.
func (x double) moved(two uint64) double {
	return double{x.high<<2 | x.low>>62, x.low<<2 | two}
}

// below tells whether x is less than y.
func (x double) below(y double) bool {
	return x.high < y.high || x.high == y.high && x.low < y.low
}

// less tells x less y, which isn't above x.
func (x double) less(y double) double {
	low, borrow := bits.Sub64(x.low, y.low, 0)
	return double{x.high - y.high - borrow, low}
}
