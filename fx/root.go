package fx

// rootBits: bits of a root; the number itself has two for each of them.
const rootBits = 64

// maxSide: the greatest amount of Hypot's numbers: two squares of it still fit into a uint64.
const maxSide = 1 << 31

// Sqrt tells the greatest number whose square isn't above v.
func Sqrt(v uint64) uint32 {
	return uint32(Root(0, v)) // there is room: half of v's bits
}

// Root tells the greatest number whose square isn't above hi 2^64 + lo: as by hand, a bit of the root for two bits of the number, from above.
func Root(hi, lo uint64) uint64 {
	var root uint64
	var rest double // what the number's bits so far are above the root's square
	ahead := double{hi, lo}
	for range rootBits {
		rest = rest.moved(ahead.high >> 62)
		ahead = ahead.moved(0)
		more := double{0, root}.moved(1) // (2 root + 1)^2 is more than (2 root)^2 by 4 root + 1
		root <<= 1
		if !rest.below(more) {
			rest = rest.less(more)
			root |= 1
		}
	}
	return root
}

// Hypot tells the greatest number whose square isn't above x x + y y; false (0), if an amount is above 2^31.
func Hypot(x, y int64) (int64, bool) {
	across, along := size(x), size(y)
	if across > maxSide || along > maxSide {
		return 0, false
	}
	return int64(Sqrt(across*across + along*along)), true
}
