package sound_test

import (
	"errors"
	"math"
	"math/big"
	"math/rand/v2"
	"testing"

	"leadline/api"
	"leadline/fault"
	"leadline/sound"
)

// span: the least and the greatest number that a measure may be, by the chapter.
type span struct{ least, most int64 }

func (s span) has(v int64) bool { return v >= s.least && v <= s.most }

func coldSpan() span   { return span{-500, 4500} }
func saltSpan() span   { return span{0, 4500} }
func deepSpan() span   { return span{0, 1000000} }
func microsSpan() span { return span{0, 2000000} }
func speedSpan() span  { return span{1, 2000000} }
func rangeSpan() span  { return span{0, 2097152} }

// within tells numbers of s: its ends, those beside them, some between.
func (s span) within() []int64 {
	l := []int64{s.least, s.least + 1, s.least + 2, s.most - 2, s.most - 1, s.most, (s.least + s.most) / 2}
	if s.has(0) {
		l = append(l, 0)
	}
	return append(l, (2*s.least+s.most)/3, (s.least+6*s.most)/7)
}

// outside tells numbers that s hasn't: those beside its ends, those whose lower bits look like one of s, the ends of the type.
func (s span) outside() []int64 {
	l := []int64{math.MinInt64, math.MinInt64 + 1, math.MaxInt64 - 1, math.MaxInt64, s.least - 1, s.least - 2, s.most + 1, s.most + 2}
	for _, bit := range []int{24, 31, 32, 33, 48, 62} {
		l = append(l, 1<<bit, -1<<bit, 1<<bit+s.most, -1<<bit+s.least, 1<<bit+1)
	}
	return append(l, math.MinInt64+s.most, -2*s.most-1, 3*s.most)
}

// nearest tells the whole number nearest to a b over c, of two the greater one.
func nearest(a, b, c int64) *big.Int {
	twice := new(big.Int).Mul(big.NewInt(a), big.NewInt(b))
	twice.Lsh(twice, 1)
	under := new(big.Int).Lsh(big.NewInt(c), 1)
	return twice.Div(twice.Add(twice, big.NewInt(c)), under) // towards the lower one, since c is above 0
}

// fast tells the chapter's Speed of water that there is.
func fast(t, s, z int64) int64 {
	sum := big.NewInt(1449200 + 46*t)
	sum.Sub(sum, nearest(t*t, 55, 10000))
	sum.Add(sum, nearest(t*t*t, 29, 100000000))
	sum.Add(sum, nearest(13400-t, s-3500, 1000))
	sum.Add(sum, nearest(16, z, 1000))
	return sum.Int64()
}

// far tells the chapter's Range of a time and a speed that may be.
func far(micros, speed int64) int64 {
	return nearest(micros, speed, 2000000).Int64()
}

// onMap tells the chapter's Flat of a range and a difference in depth that may be.
func onMap(r, dz int64) int64 {
	square := new(big.Int).Mul(big.NewInt(r-dz), big.NewInt(r+dz))
	return square.Sqrt(square).Int64()
}

// thrown tells a source of numbers by chance, always the same ones of a seed.
func thrown(seed uint64) *rand.Rand {
	return rand.New(rand.NewPCG(seed, 13))
}

// some tells a number of s by chance.
func (s span) some(d *rand.Rand) int64 {
	return s.least + d.Int64N(s.most-s.least+1)
}

// isWrong holds an answer against what is promised of a measure that may not be: 0, and a fault of this package with ErrUnits.
func isWrong(t *testing.T, what string, of []int64, v int64, err error) {
	t.Helper()
	if v != 0 {
		t.Errorf("%s%v: %d beside an error", what, of, v)
	}
	if _, ok := err.(*fault.Fault); !ok {
		t.Errorf("%s%v: %v, %T is no fault", what, of, err, err)
		return
	}
	var n api.Errno
	if !errors.As(err, &n) || n != api.ErrUnits || !errors.Is(err, api.ErrUnits) {
		t.Errorf("%s%v: %v instead of %v", what, of, err, api.ErrUnits)
	}
	if fault.Code(err) != 27 || !fault.Is(err, api.ErrUnits) {
		t.Errorf("%s%v: number %d", what, of, fault.Code(err))
	}
	if ops := fault.Ops(err); len(ops) == 0 || ops[0] != "sound" {
		t.Errorf("%s%v: ops %q", what, of, ops)
	}
}

// isRight holds an answer against the number that is promised, without an error.
func isRight(t *testing.T, what string, of []int64, v int64, err error, want int64) {
	t.Helper()
	if err != nil || v != want {
		t.Errorf("%s%v: %d, %v instead of %d", what, of, v, err, want)
	}
}

func speedIs(t *testing.T, temp, salt, depth, want int64) {
	t.Helper()
	v, err := sound.Speed(temp, salt, depth)
	isRight(t, "P13.1: Speed", []int64{temp, salt, depth}, v, err, want)
}

func speedFails(t *testing.T, temp, salt, depth int64) {
	t.Helper()
	v, err := sound.Speed(temp, salt, depth)
	isWrong(t, "P13.1: Speed", []int64{temp, salt, depth}, v, err)
}

func rangeIs(t *testing.T, micros, speed, want int64) {
	t.Helper()
	v, err := sound.Range(micros, speed)
	isRight(t, "P13.2: Range", []int64{micros, speed}, v, err, want)
}

func rangeFails(t *testing.T, micros, speed int64) {
	t.Helper()
	v, err := sound.Range(micros, speed)
	isWrong(t, "P13.2: Range", []int64{micros, speed}, v, err)
}

func flatIs(t *testing.T, r, dz, want int64) {
	t.Helper()
	v, err := sound.Flat(r, dz)
	isRight(t, "P13.2: Flat", []int64{r, dz}, v, err, want)
}

func flatFails(t *testing.T, r, dz int64) {
	t.Helper()
	v, err := sound.Flat(r, dz)
	isWrong(t, "P13.2: Flat", []int64{r, dz}, v, err)
}
