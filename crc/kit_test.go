package crc_test

import (
	"bytes"
	"math/rand/v2"
	"testing"

	"leadline/crc"
)

// none is the sum of no bytes, sums is how many sums there are.
const (
	none = 0xffff
	sums = 1 << 16
)

// dice throw numbers by chance, always the same ones of a seed.
type dice struct{ *rand.Rand }

func thrown(seed uint64) dice {
	return dice{rand.New(rand.NewPCG(seed, 10))}
}

// list tells n bytes.
func (d dice) list(n int) []byte {
	var l []byte
	for range n {
		l = append(l, byte(d.Uint32()))
	}
	return l
}

// parted tells b in pieces, empty ones among them.
func (d dice) parted(b []byte) [][]byte {
	var l [][]byte
	for len(b) > 0 {
		n := d.IntN(min(len(b), 50) + 1)
		l, b = append(l, b[:n]), b[n:]
	}
	return l
}

// all tells n bytes of v.
func all(n int, v byte) []byte {
	return bytes.Repeat([]byte{v}, n)
}

// each tells n bytes: at tells which.
func each(n int, at func(i int) int) []byte {
	var l []byte
	for i := range n {
		l = append(l, byte(at(i)))
	}
	return l
}

// halves tells a sum's two bytes, the upper one first.
func halves(sum uint16) []byte {
	return []byte{byte(sum / 256), byte(sum % 256)}
}

// divided tells what is left of b's bits and 16 noughts behind, the first 16 of all changed by sum, when they are divided by x^16 + x^12 + x^5 + 1: a long division in the bytes themselves.
func divided(sum uint16, b []byte) uint16 {
	l := append(bytes.Clone(b), 0, 0)
	l[0] ^= byte(sum / 256)
	l[1] ^= byte(sum % 256)
	for i := range 8 * len(b) {
		if l[i/8]&(128>>(i%8)) == 0 {
			continue
		}
		for _, k := range []int{i, i + 4, i + 11, i + 16} {
			l[k/8] ^= 128 >> (k % 8)
		}
	}
	return uint16(l[len(l)-2])*256 + uint16(l[len(l)-1])
}

// sumIs holds Sum of these parts against a number.
func sumIs(t *testing.T, want uint16, l ...[]byte) {
	t.Helper()
	if got := crc.Sum(l...); got != want {
		t.Errorf("P10.1: Sum(%x): %#04x instead of %#04x", l, got, want)
	}
}

// check holds Sum of b, whole, against what is promised of it.
func check(t *testing.T, b []byte) {
	t.Helper()
	sumIs(t, divided(none, b), b)
}
