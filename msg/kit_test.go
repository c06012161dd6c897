package msg_test

import (
	"encoding/hex"
	"errors"
	"math"
	"math/rand/v2"
	"testing"

	"leadline/api"
	"leadline/fault"
	"leadline/msg"
)

// length is how many bytes a message has.
const length = 14

// limit: what the chapter says of a kind; of A also the nearest numbers that may not be.
type limit struct {
	kind          int
	aLeast, aMost int32
	bLeast, bMost int32
	beacon        bool // whether it may have a beacon's number
	aBelow, aPast int32
}

// limits tells the chapter's, kind by kind.
func limits() []limit {
	return []limit{
		{kind: 1, aLeast: -10000, aMost: 10000, bLeast: -10000, bMost: 10000, aBelow: -10001, aPast: 10001},
		{kind: 2, aLeast: 0, aMost: 65535, aBelow: -1, aPast: 65536},
		{kind: 3, aLeast: 0, aMost: 1000000, aBelow: -1, aPast: 1000001},
		{kind: 4, aLeast: 1, aMost: 2000000, beacon: true, aBelow: 0, aPast: 2000001},
		{kind: 5, aLeast: -500, aMost: 4500, bLeast: 0, bMost: 4500, aBelow: -501, aPast: 4501},
	}
}

// promised tells the number of the error that the chapter promises of m.
func promised(m api.Msg) api.Errno {
	for _, l := range limits() {
		if m.Kind != l.kind {
			continue
		}
		if m.A <= l.aBelow || m.A >= l.aPast || m.B < l.bLeast || m.B > l.bMost || m.Id > 0 && !l.beacon {
			return api.ErrUnits
		}
		return api.OK
	}
	return api.ErrKind
}

// kindsThatAreNone tells kinds that there aren't, many of which look like one by their lowest byte, or bytes.
func kindsThatAreNone() []int {
	l := []int{0, -1, 6, 7, 8, 127, 128, 254, 255, 256, -255, -256, math.MaxInt, math.MinInt, math.MaxInt32, math.MinInt32, math.MaxUint32}
	for k := range 7 {
		l = append(l, 256+k, 512+k, -256+k, -512+k, 1<<15|k, 1<<16+k, -1<<16+k, 1<<24+k, 1<<31+k, -1<<31+k, 1<<32+k, -1<<32+k, 5<<32+k, 1<<40|k, math.MaxInt-255+k, math.MinInt+k)
		if k > 0 {
			l = append(l, -k, k<<8, k<<24, k<<32, k<<56)
		}
	}
	return l
}

// edges tells numbers at, below and past whatever is a limit of some kind, and those at the ends of their type.
func edges() []int32 {
	l := []int32{math.MinInt32, math.MinInt32 + 1, -1 << 24, -65536, -256, -2, -1, 0, 1, 2, 255, 256, 32767, 32768, 1 << 24, math.MaxInt32 - 1, math.MaxInt32}
	for _, v := range []int32{-10000, 10000, 65535, 1000000, 2000000, -500, 4500} {
		l = append(l, v-1, v, v+1)
	}
	return l
}

// many tells messages of all kinds with all edges in both numbers, among them those of no kind.
func many() []api.Msg {
	var l []api.Msg
	times := []uint32{0, 1, 0x01020304, 0x7fffffff, 0x80000000, 0xfffefdfc, 0xffffffff}
	for kind := range 8 {
		for i, a := range edges() {
			for j, b := range edges() {
				for _, id := range []uint8{0, 1, 255} {
					l = append(l, api.Msg{Kind: kind, Time: times[(i+j)%len(times)], Id: id, A: a, B: b})
				}
			}
		}
	}
	return l
}

// good tells those of many() that may be.
func good() []api.Msg {
	var l []api.Msg
	for _, m := range many() {
		if promised(m) == api.OK {
			l = append(l, m)
		}
	}
	return l
}

// thrown tells a source of numbers by chance, always the same ones of a seed.
func thrown(seed uint64) *rand.Rand {
	return rand.New(rand.NewPCG(seed, 12))
}

// between tells a number from least to most by chance.
func between(d *rand.Rand, least, most int32) int32 {
	return least + int32(d.IntN(int(most-least)+1))
}

// some tells a message that may be, by chance.
func some(d *rand.Rand) api.Msg {
	l := limits()[d.IntN(len(limits()))]
	m := api.Msg{Kind: l.kind, Time: d.Uint32(), A: between(d, l.aLeast, l.aMost), B: between(d, l.bLeast, l.bMost)}
	if l.beacon {
		m.Id = uint8(d.UintN(256))
	}
	return m
}

// of tells the bytes of hexadecimal digits.
func of(digits string) []byte {
	b, err := hex.DecodeString(digits)
	if err != nil {
		panic(err)
	}
	return b
}

// laid tells the bytes of what m says, whether it may be or not, by dividing; of its kind the lowest byte.
func laid(m api.Msg) []byte {
	b := []byte{byte(m.Kind & 255)}
	b = append(b, quarters(int64(m.Time))...)
	b = append(b, m.Id)
	b = append(b, quarters(int64(m.A))...)
	return append(b, quarters(int64(m.B))...)
}

// quarters tells v's four bytes, the highest first, of a v below 0 those of what it is less than 2 to the 32.
func quarters(v int64) []byte {
	if v < 0 {
		v += 1 << 32
	}
	return []byte{byte(v / 16777216), byte(v / 65536 % 256), byte(v / 256 % 256), byte(v % 256)}
}

// said tells what 14 bytes say, whether it may be or not, by summing.
func said(b []byte) api.Msg {
	return api.Msg{Kind: int(b[0]), Time: uint32(sum(b[1:5])), Id: b[5], A: signed(sum(b[6:10])), B: signed(sum(b[10:14]))}
}

func sum(b []byte) int64 {
	var v int64
	for _, x := range b {
		v = v*256 + int64(x)
	}
	return v
}

func signed(v int64) int32 {
	if v >= 1<<31 {
		v -= 1 << 32
	}
	return int32(v)
}

// errIs holds an error against the number that is promised: nil of OK; else a fault of this package with that number.
func errIs(t *testing.T, what string, m any, err error, want api.Errno) {
	t.Helper()
	if want == api.OK {
		if err != nil {
			t.Errorf("%s of %+v: %v instead of none", what, m, err)
		}
		return
	}
	var f *fault.Fault
	if !errors.As(err, &f) {
		t.Errorf("%s of %+v: %v instead of a fault of %v", what, m, err, want)
		return
	}
	if _, ok := err.(*fault.Fault); !ok {
		t.Errorf("%s of %+v: %T isn't a fault itself", what, m, err)
	}
	if fault.Code(err) != want || !errors.Is(err, want) || !fault.Is(err, want) {
		t.Errorf("%s of %+v: %v instead of %v", what, m, err, want)
	}
	if ops := fault.Ops(err); len(ops) == 0 || ops[0] != "msg" {
		t.Errorf("%s of %+v: ops %q", what, m, ops)
	}
}

// putIs holds Put of m against bytes, or against the number of an error beside which there is nothing.
func putIs(t *testing.T, m api.Msg, want []byte, n api.Errno) {
	t.Helper()
	b, err := msg.Put(m)
	errIs(t, "P12.2: Put", m, err, n)
	if string(b) != string(want) {
		t.Errorf("P12.2: Put of %+v: %x instead of %x", m, b, want)
	}
}

// readIs holds Read of b against a message, or against the number of an error beside which there is the zero one.
func readIs(t *testing.T, b []byte, want api.Msg, n api.Errno) {
	t.Helper()
	m, err := msg.Read(b)
	errIs(t, "P12.2: Read", b, err, n)
	if m != want {
		t.Errorf("P12.2: Read of %x: %+v instead of %+v", b, m, want)
	}
}
