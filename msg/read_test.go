package msg_test

import (
	"bytes"
	"math"
	"testing"

	"leadline/api"
	"leadline/msg"
)

// TestReadKnown: bytes that another program made.
func TestReadKnown(t *testing.T) {
	for _, p := range known() {
		readIs(t, of(p.digits), p.m, api.OK)
	}
}

// TestReadSize: but 14 bytes are no message, whatever they say.
func TestReadSize(t *testing.T) {
	readIs(t, nil, api.Msg{}, api.ErrSize)
	readIs(t, []byte{}, api.Msg{}, api.ErrSize)
	for n := range 600 {
		if n == length {
			continue
		}
		for _, first := range []byte{0, 1, 2, 3, 4, 5, 6, 255} {
			b := bytes.Repeat([]byte{0}, n)
			if n > 0 {
				b[0] = first
			}
			readIs(t, b, api.Msg{}, api.ErrSize)
		}
		readIs(t, bytes.Repeat([]byte{255}, n), api.Msg{}, api.ErrSize)
	}
	for _, p := range known() {
		b := of(p.digits)
		readIs(t, b[:13], api.Msg{}, api.ErrSize) // the bytes behind are there, but weren't handed in
		readIs(t, b[1:], api.Msg{}, api.ErrSize)
		readIs(t, append(b, 0), api.Msg{}, api.ErrSize)
		readIs(t, append(b, b...), api.Msg{}, api.ErrSize)
	}
	for _, n := range []int{length + 1<<8, length + 1<<16, 1 << 20} {
		readIs(t, append(of(known()[0].digits), make([]byte, n-length)...), api.Msg{}, api.ErrSize)
	}
}

// TestReadKinds: a first byte that is no kind is told ahead of measures that may not be.
func TestReadKinds(t *testing.T) {
	for k := range 256 {
		for _, rest := range []string{"00000000000000000100000000", "00000000000000000000000000", "ffffffff00ffffffffffffffff", "ffffffffffffffffffffffffff", "80000000ff7fffffff80000000"} {
			b := append([]byte{byte(k)}, of(rest)...)
			m := said(b)
			n := promised(m)
			if (n == api.ErrKind) != (k < 1 || k > 5) {
				t.Fatalf("kind %d: %v", k, n)
			}
			if n != api.OK {
				m = api.Msg{}
			}
			readIs(t, b, m, n)
		}
	}
}

// TestReadUnits: 14 bytes that say a measure that may not be.
func TestReadUnits(t *testing.T) {
	for _, digits := range []string{
		"010000000000" + "00002711" + "00000000", // 10001
		"010000000000" + "ffffd8ef" + "00000000", // -10001
		"010000000000" + "00000000" + "00002711",
		"010000000000" + "00000000" + "ffffd8ef",
		"010000000001" + "00000000" + "00000000",
		"010000000000" + "0000d8f0" + "00000000", // as -10000 of 16 bits
		"010000000000" + "27100000" + "00000000", // the highest bytes last
		"020000000000" + "00010000" + "00000000",
		"020000000000" + "ffffffff" + "00000000",
		"020000000000" + "00000000" + "00000001",
		"0200000000ff" + "00000000" + "00000000",
		"030000000000" + "000f4241" + "00000000",
		"030000000000" + "ffffffff" + "00000000",
		"030000000000" + "80000000" + "00000000",
		"030000000000" + "00000000" + "01000000",
		"030000000080" + "00000000" + "00000000",
		"040000000000" + "00000000" + "00000000",
		"040000000007" + "001e8481" + "00000000",
		"040000000007" + "80000001" + "00000000",
		"040000000007" + "00000001" + "80000000",
		"050000000000" + "00001195" + "00000000",
		"050000000000" + "fffffe0b" + "00000000", // -501
		"050000000000" + "00000000" + "00001195",
		"050000000000" + "00000000" + "ffffffff",
		"050000000001" + "00000000" + "00000000",
	} {
		readIs(t, of(digits), api.Msg{}, api.ErrUnits)
	}
}

// TestReadPlaces: each bit of each part is told in its own place.
func TestReadPlaces(t *testing.T) {
	for i := range length {
		for bit := range 8 {
			for _, p := range known() {
				b := of(p.digits)
				b[i] ^= 1 << bit
				m := said(b)
				n := promised(m)
				if n != api.OK {
					m = api.Msg{}
				}
				readIs(t, b, m, n)
			}
		}
	}
	for bit := range 32 {
		b := make([]byte, length)
		b[0], b[4-bit/8] = 3, 1<<(bit%8)
		readIs(t, b, api.Msg{Kind: api.MsgDepth, Time: 1 << bit}, api.OK)
	}
}

// TestReadMany: the bytes of all edges: the message, or Check's error and the zero one.
func TestReadMany(t *testing.T) {
	for _, m := range many() {
		n := promised(m)
		want := m
		if n != api.OK {
			want = api.Msg{}
		}
		readIs(t, laid(m), want, n)
	}
}

// TestThereAndBack: whatever may be is what its bytes say, and bytes that say it are its own.
func TestThereAndBack(t *testing.T) {
	d := thrown(1)
	l := good()
	for range 20000 {
		l = append(l, some(d))
	}
	for _, m := range l {
		b, err := msg.Put(m)
		if err != nil || len(b) != length {
			t.Fatalf("P12.2: Put of %+v: %x, %v", m, b, err)
		}
		readIs(t, b, m, api.OK)
		putIs(t, m, b, api.OK)
	}
}

// TestNotBelieved: of bytes by chance, and of messages with one part changed, just those that can be measured are taken, by each call alike.
func TestNotBelieved(t *testing.T) {
	d := thrown(2)
	taken := 0
	for i := range 50000 {
		b := laid(some(d))
		b[d.IntN(length)] = byte(d.Uint32())
		if i%10 == 0 {
			b = laid(api.Msg{Kind: d.IntN(7), Time: d.Uint32(), Id: uint8(d.UintN(2)), A: int32(d.Uint32()), B: int32(d.Uint32())})
		}
		m := said(b)
		n := promised(m)
		errIs(t, "P12.3: Check", m, msg.Check(m), n)
		if n != api.OK {
			readIs(t, b, api.Msg{}, n)
			putIs(t, m, nil, n)
			continue
		}
		taken++
		readIs(t, b, m, api.OK)
		putIs(t, m, b, api.OK)
	}
	if taken < 5000 || taken > 45000 {
		t.Errorf("%d were taken: the test shows little", taken)
	}
}

// TestReadIsChecked: what Read tells, Check takes; of what Read tells no error, no measure is beyond all sensors' ends.
func TestReadIsChecked(t *testing.T) {
	d := thrown(3)
	for range 20000 {
		b := make([]byte, length)
		for i := range b {
			b[i] = []byte{0, 0, 0, 1, 2, 3, 4, 5, 0x27, 0xff, byte(d.Uint32())}[d.IntN(11)]
		}
		m, err := msg.Read(b)
		if err != nil {
			continue
		}
		if msg.Check(m) != nil || m.A < -10000 || m.A > 2000000 || m.B < -10000 || m.B > 10000 || m.A == math.MinInt32 {
			t.Errorf("P12.3: Read of %x: %+v", b, m)
		}
	}
}
