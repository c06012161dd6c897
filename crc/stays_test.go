package crc_test

import (
	"bytes"
	"slices"
	"testing"

	"leadline/crc"
)

// roomy tells b with spare room behind it, and that with the room.
func roomy(b []byte) ([]byte, []byte) {
	room := append(bytes.Clone(b), all(30, 0x91)...)
	return room[:len(b)], room
}

// TestNothingIsChanged: the parts, their order, and the spare room behind each and behind their list stay as they were; asked again, the sum is the same.
func TestNothingIsChanged(t *testing.T) {
	d := thrown(9)
	for n := range 60 {
		b := d.list(n)
		own, room := roomy(b)
		more, moreRoom := roomy(d.list(5))
		list := [][]byte{nil, own, {}, more, own[:n/2], {1, 2, 3}, nil, own}
		was, wasRoom, wasMore := slices.Clone(list), bytes.Clone(room), bytes.Clone(moreRoom)
		want := divided(none, slices.Concat(own, more, own[:n/2]))
		sumIs(t, want, list[:5]...)
		sumIs(t, want, list[:5]...)
		if !bytes.Equal(room, wasRoom) || !bytes.Equal(moreRoom, wasMore) {
			t.Errorf("P10.1: of %x: what was handed in is %x, %x", b, room, moreRoom)
		}
		for i := range list {
			if (list[i] == nil) != (was[i] == nil) || len(list[i]) != len(was[i]) || cap(list[i]) != cap(was[i]) || !bytes.Equal(list[i], was[i]) {
				t.Errorf("P10.1: part %d is %x instead of %x", i, list[i], was[i])
			}
		}
	}
}

// TestOneArray: parts may lie over one another, and a part may come more than once.
func TestOneArray(t *testing.T) {
	b := thrown(10).list(20)
	sumIs(t, divided(none, slices.Concat(b, b)), b, b)
	sumIs(t, divided(none, slices.Concat(b[:12], b[5:], b[7:9], b)), b[:12], b[5:], b[7:9], b)
}

// TestNothingIsKept: what was asked ahead, and what becomes of it behind, doesn't change an answer.
func TestNothingIsKept(t *testing.T) {
	b := []byte("123456789")
	first := crc.Sum(b)
	b[4] = 0
	crc.Sum(b, b)
	crc.More(first, 5)
	b[4] = '5'
	sumIs(t, first, b)
	sumIs(t, 0x29b1, b)
	sumIs(t, none)
}
