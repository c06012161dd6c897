package msg_test

import (
	"bytes"
	"testing"

	"leadline/api"
	"leadline/fault"
	"leadline/msg"
)

// roomy tells b with spare room behind it, and that with the room.
func roomy(b []byte) ([]byte, []byte) {
	room := append(bytes.Clone(b), bytes.Repeat([]byte{0x91}, 40)...)
	return room[:len(b)], room
}

// TestReadChangesNothing: what is handed in stays as it was, the room behind it too, whatever is told.
func TestReadChangesNothing(t *testing.T) {
	d := thrown(4)
	for n := range 30 {
		for range 50 {
			b := laid(some(d))
			if n != length {
				b = append(b, b...)
				b = append(b, b...)[:n]
			}
			if d.IntN(2) == 0 && n > 0 {
				b[d.IntN(n)] ^= 0x80
			}
			own, room := roomy(b)
			was := bytes.Clone(room)
			msg.Read(own)
			if !bytes.Equal(room, was) {
				t.Fatalf("P12.2: what was handed in is %x instead of %x", room, was)
			}
		}
	}
}

// TestReadHangsOnItsBytesAlone: what stands behind the bytes that are handed in says nothing.
func TestReadHangsOnItsBytesAlone(t *testing.T) {
	for _, m := range good() {
		own, room := roomy(laid(m))
		readIs(t, own, m, api.OK)
		clear(room[length:])
		readIs(t, own, m, api.OK)
	}
}

// TestReadStays: what was told stays when its bytes are changed, or more is read.
func TestReadStays(t *testing.T) {
	for _, p := range known() {
		own, room := roomy(of(p.digits))
		m, err := msg.Read(own)
		clear(room)
		msg.Read(of(known()[3].digits))
		if m != p.m || err != nil {
			t.Errorf("P12.2: Read of %s became %+v, %v", p.digits, m, err)
		}
	}
}

// TestPutStays: bytes are new memory: neither other bytes, nor what is put behind them, nor the message change them.
func TestPutStays(t *testing.T) {
	for _, p := range known() {
		m := p.m
		first, _ := msg.Put(m)
		second, _ := msg.Put(m)
		m = api.Msg{}
		grown := append(first, 1, 2, 3)
		clear(grown)
		clear(first[:cap(first)])
		other, _ := msg.Put(known()[1].m)
		if !bytes.Equal(second, of(p.digits)) || !bytes.Equal(other, of(known()[1].digits)) {
			t.Errorf("P12.2: Put of %+v became %x, another one %x", p.m, second, other)
		}
		putIs(t, p.m, of(p.digits), api.OK)
	}
}

// TestErrorsStay: errors that were told are the same still when others were told, and when what was handed in is changed.
func TestErrorsStay(t *testing.T) {
	kind := msg.Check(api.Msg{})
	units := msg.Check(api.Msg{Kind: api.MsgRange})
	own, room := roomy(of(known()[0].digits)[:13])
	_, size := msg.Read(own)
	clear(room)
	_, put := msg.Put(api.Msg{Kind: 6})
	bad := append([]byte{3}, bytes.Repeat([]byte{0xff}, 13)...)
	_, read := msg.Read(bad)
	copy(bad, of(known()[7].digits))
	msg.Read(nil)
	errIs(t, "P12.1: Check", 0, kind, api.ErrKind)
	errIs(t, "P12.1: Check", 1, units, api.ErrUnits)
	errIs(t, "P12.2: Read", 2, size, api.ErrSize)
	errIs(t, "P12.2: Put", 3, put, api.ErrKind)
	errIs(t, "P12.2: Read", 4, read, api.ErrUnits)
}

// TestErrorsAreTheCallers: who changes an error that was told changes no other one.
func TestErrorsAreTheCallers(t *testing.T) {
	for _, m := range []api.Msg{{}, {Kind: api.MsgRange}} {
		want := promised(m)
		f, ok := msg.Check(m).(*fault.Fault)
		if !ok {
			t.Fatalf("P12.1: Check of %+v is no fault", m)
		}
		again := msg.Check(m)
		f.Op, f.Err = "changed", nil
		errIs(t, "P12.1: Check", m, again, want)
		errIs(t, "P12.1: Check", m, msg.Check(m), want)
	}
}

// TestSameAgain: the same is told of the same, whatever was told between, and by many at a time.
func TestSameAgain(t *testing.T) {
	done := make(chan bool)
	for range 8 {
		go func() {
			defer func() { done <- true }()
			for _, p := range known() {
				putIs(t, p.m, of(p.digits), api.OK)
				readIs(t, of(p.digits), p.m, api.OK)
			}
		}()
	}
	for range 8 {
		<-done
	}
}
