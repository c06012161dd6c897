package sound

// What water may be, and how long and how fast sound may go in it.
const (
	coldest  = -500 // a hundredth of a degree
	warmest  = 4500
	saltiest = 4500    // a hundredth of a part by thousand
	deepest  = 1000000 // millimetres
	latest   = 2000000 // microseconds there and back
	fastest  = 2000000 // millimetres a second
)

// thereAndBack: twice the microseconds of a second, since sound goes the way twice.
const thereAndBack = 2000000
