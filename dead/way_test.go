package dead_test

import (
	"testing"

	"leadline/api"
	"leadline/dead"
	"leadline/fault"
)

// goOn tells where it is that went a leg from p.
func goOn(t *testing.T, p api.Point, l leg) api.Point {
	t.Helper()
	way, err := move(l)
	isRight(t, "P15.2: Move", l, way, err, moved(l))
	next, err := dead.Sum(p, way)
	isRight(t, "P15.2: Sum", []api.Point{p, way}, next, err, api.Point{X: p.X + way.X, Y: p.Y + way.Y})
	return next
}

// TestWayOfSome: where it was, and how it went, leg by leg, written down.
func TestWayOfSome(t *testing.T) {
	p := api.Point{X: 1000, Y: -2000}
	for _, x := range []struct {
		leg
		toX, toY int64
	}{
		{leg{0, 1000, 0, 10000}, 1000, 8000},
		{leg{16384, 1500, 0, 4000}, 7000, 8000},
		{leg{8192, 1000, 0, 1000}, 7707, 8707},
		{leg{8192, 1000, 1000, 1000}, 9122, 8707},
		{leg{32768, 0, 500, 1000}, 8622, 8707},
		{leg{49152, -1000, 0, 1000}, 9622, 8707},
		{leg{12345, -6789, 4321, 54321}, -243333, -348000},
		{leg{12345, 1000, 1000, 0}, -243333, -348000},
		{leg{54321, 1234, -9876, 777}, -247827, -354297},
	} {
		p = goOn(t, p, x.leg)
		if want := (api.Point{X: x.toX, Y: x.toY}); p != want {
			t.Fatalf("P15.2: behind %v: %v instead of %v", x.leg, p, want)
		}
	}
}

// TestWayThereAndBack: a square round, either way, and a way back as it came, ends where it began.
func TestWayThereAndBack(t *testing.T) {
	for _, turn := range []uint16{16384, 49152} {
		p, heading := api.Point{X: 7, Y: -9}, uint16(0)
		for range 4 {
			p = goOn(t, p, leg{heading, 1234, 56, 5000})
			heading += turn
		}
		if want := (api.Point{X: 7, Y: -9}); p != want {
			t.Errorf("P15.2: round a square by %d: %v instead of %v", turn, p, want)
		}
	}
	for heading := range 4096 {
		l := leg{uint16(16*heading + 3), 1001, -333, 777}
		back := leg{l.heading + 32768, l.ahead, l.right, l.millis} // it turned round
		p := goOn(t, goOn(t, api.Point{X: 5, Y: 5}, l), back)
		if want := (api.Point{X: 5, Y: 5}); p != want {
			t.Fatalf("P15.2: %v and back: %v instead of %v", l, p, want)
		}
	}
}

// TestWayTurned: turned by a quarter to the right, what went to the right goes ahead, and what went ahead goes to the left: the same way.
func TestWayTurned(t *testing.T) {
	d := thrown(3)
	for range 20000 {
		l := someLeg(d)
		p, err := move(l)
		isRight(t, "P15.2: Move", l, p, err, moved(l))
		for range 3 {
			l = leg{l.heading + 16384, l.right, -l.ahead, l.millis}
			moveIs(t, l, p.X, p.Y)
		}
	}
}

// TestWayFar: any way that may be from any place that may be: it is where the chapter says, or too far off.
func TestWayFar(t *testing.T) {
	d, over := thrown(4), 0
	for range 50000 {
		from := api.Point{X: upTo(d, farthest), Y: upTo(d, farthest)}
		way, err := move(someLeg(d))
		if err != nil {
			t.Fatalf("P15.2: %v", err)
		}
		sumHolds(t, from, way)
		if _, ok := joined(from, way); !ok {
			over++
		}
	}
	if over == 0 {
		t.Errorf("P15.2: no way led too far")
	}
}

// TestWayToTheEnd: on to the last place that there is, and one past it; the way itself is never too far.
func TestWayToTheEnd(t *testing.T) {
	p := api.Point{}
	for range 6 {
		p = goOn(t, p, leg{0, fastest, 0, longest})
	}
	p = goOn(t, p, leg{0, fastest, 0, 59430})
	p = goOn(t, p, leg{0, 1000, 0, 4})
	if want := (api.Point{Y: farthest}); p != want {
		t.Fatalf("P15.2: %v instead of %v", p, want)
	}
	one, err := move(leg{0, 1000, 0, 1})
	isRight(t, "P15.2: Move", "one more", one, err, api.Point{Y: 1})
	sumFails(t, p, one)
	p = goOn(t, p, leg{16384, 1000, 0, 1}) // aside and back there is room
	goOn(t, p, leg{32768, fastest, 0, longest})
}

// TestErrorsAreTheCallers: who changes an error that was told changes no other one.
func TestErrorsAreTheCallers(t *testing.T) {
	_, first := move(leg{0, fastest + 1, 0, 0})
	_, second := move(leg{0, fastest + 1, 0, 0})
	_, third := dead.Sum(api.Point{X: farthest}, api.Point{X: 1})
	f, ok := first.(*fault.Fault)
	if !ok {
		t.Fatalf("P15.1: %v is no fault", first)
	}
	f.Op, f.Err = "changed", nil
	isWrong(t, "P15.1: Move", "again", api.Point{}, second, api.ErrUnits)
	isWrong(t, "P15.1: Sum", "again", api.Point{}, third, api.ErrOver)
	moveFails(t, leg{0, fastest + 1, 0, 0})
}

// TestSameAgain: the same is told of the same, whatever was told between, and by many at a time.
func TestSameAgain(t *testing.T) {
	done := make(chan bool)
	for range 8 {
		go func() {
			defer func() { done <- true }()
			for range 300 {
				moveIs(t, leg{12345, -6789, 4321, 54321}, -252955, -356707)
				moveFails(t, leg{12345, -6789, 4321, 60001})
				sumIs(t, api.Point{X: 1, Y: 2}, api.Point{X: 3, Y: 4}, api.Point{X: 4, Y: 6})
				sumFails(t, api.Point{X: 1, Y: farthest}, api.Point{X: 3, Y: 4})
			}
		}()
	}
	for range 8 {
		<-done
	}
}
