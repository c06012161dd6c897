package frame_test

import (
	"bytes"
	"encoding/hex"
	"math/rand/v2"
	"testing"

	"leadline/api"
	"leadline/frame"
)

// around is how many bytes a frame has more than its payload, longest how many a frame has at most.
const (
	around  = 5
	longest = api.MaxFrame + around
)

// dice throw numbers by chance, always the same ones of a seed.
type dice struct{ *rand.Rand }

func thrown(seed uint64) dice {
	return dice{rand.New(rand.NewPCG(seed, 11))}
}

// list tells n bytes.
func (d dice) list(n int) []byte {
	var l []byte
	for range n {
		l = append(l, byte(d.Uint32()))
	}
	return l
}

// rough tells n bytes of which many are such as frames begin with.
func (d dice) rough(n int) []byte {
	often := []byte{0xaa, 0xaa, 0xaa, 0x55, 0x55, 0x55, 1, 2, 3, 0, 40, 41}
	var l []byte
	for range n {
		l = append(l, often[d.IntN(len(often))])
	}
	return l
}

// stream tells frames, cut ones, turned ones and other bytes, one behind another.
func (d dice) stream(parts int) []byte {
	var l []byte
	for range parts {
		f := framed(d.list(1 + d.IntN(api.MaxFrame)))
		if d.IntN(3) == 0 {
			f = framed(d.rough(1 + d.IntN(api.MaxFrame)))
		}
		switch d.IntN(6) {
		case 0:
			f = d.rough(d.IntN(20))
		case 1:
			f = d.list(d.IntN(60))
		case 2:
			f = f[:d.IntN(len(f))]
		case 3:
			f[d.IntN(len(f))] ^= 1 << d.IntN(8)
		}
		l = append(l, f...)
	}
	return l
}

// all tells n bytes of v.
func all(n int, v byte) []byte {
	return bytes.Repeat([]byte{v}, n)
}

// ramp tells the n bytes 0, 1, 2 ..
func ramp(n int) []byte {
	var l []byte
	for i := range n {
		l = append(l, byte(i))
	}
	return l
}

// joined tells all these, one behind another.
func joined(l ...[]byte) []byte {
	return bytes.Join(l, nil)
}

// of tells the bytes of hexadecimal digits.
func of(digits string) []byte {
	b, err := hex.DecodeString(digits)
	if err != nil {
		panic(err)
	}
	return b
}

// summed tells the sum of b by the equation that a whole byte's division comes to.
func summed(b []byte) []byte {
	sum := uint16(0xffff)
	for _, v := range b {
		x := uint16(v) ^ sum/256
		x ^= x / 16
		sum = sum*256 ^ x*4096 ^ x*32 ^ x
	}
	return []byte{byte(sum / 256), byte(sum % 256)}
}

// framed tells a frame, whatever its payload's length.
func framed(b []byte) []byte {
	body := append([]byte{byte(len(b))}, b...)
	return joined([]byte{0xaa, 0x55}, body, summed(body))
}

// turned tells b with its i-th byte from behind changed.
func turned(b []byte, i int) []byte {
	l := bytes.Clone(b)
	l[len(l)-i] ^= 0x10
	return l
}

// found: what a parser has told and tells behind all that came.
type found struct {
	told      [][]byte
	bad, left int
}

// parsed tells what is promised of bytes that came from the beginning on.
func parsed(s []byte) found {
	var f found
	for {
		k := bytes.IndexByte(s, 0xaa)
		if k < 0 {
			return f
		}
		s = s[k:]
		f.left = len(s)
		if bytes.Equal(s, of("aa")) || bytes.Equal(s, of("aa55")) {
			return f
		}
		f.left = 0
		if s[1] != 0x55 {
			s = s[1:]
			continue
		}
		n := int(s[2])
		if n == 0 || n > 40 {
			f.bad++
			s = s[1:]
			continue
		}
		if len(s) < n+5 {
			f.left = len(s)
			return f
		}
		if !bytes.Equal(s[n+3:n+5], summed(s[2:n+3])) {
			f.bad++
			s = s[1:]
			continue
		}
		f.told = append(f.told, s[3:n+3])
		s = s[n+5:]
	}
}

// same tells whether these are the same lists of bytes.
func same(a, b [][]byte) bool {
	if len(a) != len(b) {
		return false
	}
	for i := range a {
		if !bytes.Equal(a[i], b[i]) {
			return false
		}
	}
	return true
}

// fed: a parser, all that came to it, and all that it told.
type fed struct {
	p    *frame.Parser
	came []byte
	told [][]byte
}

func start() *fed {
	return &fed{p: frame.New()}
}

// feed hands in b, and holds what is told against what is promised of all that came.
func (f *fed) feed(t *testing.T, b []byte) {
	t.Helper()
	f.came = append(f.came, b...)
	f.told = append(f.told, f.p.Feed(b)...)
	want := parsed(f.came)
	if !same(f.told, want.told) || f.p.Bad() != want.bad || f.p.Left() != want.left {
		t.Errorf("P11.2: behind %x, %x the last: %x, bad %d, left %d instead of %x, bad %d, left %d", f.came, b, f.told, f.p.Bad(), f.p.Left(), want.told, want.bad, want.left)
	}
}

// feedIs feeds b to a new parser, and holds it against what is written down here, too.
func feedIs(t *testing.T, b []byte, bad, left int, told ...[]byte) {
	t.Helper()
	f := start()
	f.feed(t, b)
	if !same(f.told, told) || f.p.Bad() != bad || f.p.Left() != left {
		t.Errorf("P11.2: Feed(%x): %x, bad %d, left %d instead of %x, bad %d, left %d", b, f.told, f.p.Bad(), f.p.Left(), told, bad, left)
	}
}
