package motion_test

import (
	"math"
	"slices"
	"testing"

	"leadline/api"
	"leadline/fault"
	"leadline/motion"
)

// spare: what lies in the spare room behind a list.
const spare = 424242

// roomy tells the list with spare room behind it, and that room with it.
func roomy(l []int64) ([]int64, []int64) {
	room := slices.Repeat([]int64{spare}, len(l)+60)
	copy(room, l)
	return room[:len(l)], room
}

// asks tells what may be asked, of all sorts: what is taken, and all that isn't.
func asks() []asked {
	d := thrown(11)
	var l []asked
	for _, s := range wrongs()[:200] {
		l = append(l, open(s, at(3, 4), 5))
	}
	for _, rows := range orders() {
		n := sizeOf(rows)
		for _, s := range append(links(rows), spread(rows, 5), spread(rows, -stiffest), api.State{M: heavy(d, n, edge), V: vector(d, n, top), Row: rows}) {
			for _, u := range []api.Point{at(0, 0), at(700, -300), at(farthest+1, 0)} {
				l = append(l, open(s, u, 1), open(s, u, 1<<15), open(s, u, stiffest), open(s, u, 0), asked{s, u, 900, 1, 3}, asked{s, u, 900, math.MaxInt64, 3})
			}
		}
	}
	return l
}

// TestNothingIsChanged: what is handed in stays as it was, the spare room behind its lists included, whatever is told.
func TestNothingIsChanged(t *testing.T) {
	for _, a := range asks() {
		in := a
		var m, v []int64
		in.s.M.A, m = roomy(a.s.M.A)
		in.s.V, v = roomy(a.s.V)
		wasM, wasV := slices.Clone(m), slices.Clone(v)
		predictHolds(t, in)
		if !slices.Equal(m, wasM) || !slices.Equal(v, wasV) {
			t.Errorf("P19.1: of %v: what was handed in is %d, %d", a, m, v)
		}
	}
}

// TestNewMemory: what is told is the caller's own: who changes one list of it, its spare room too, changes nothing that was handed in, not the other list, nor what is told next; who changes what was handed in changes nothing that was told.
func TestNewMemory(t *testing.T) {
	for _, a := range asks() {
		want, number := predicted(a)
		if number != 0 {
			continue
		}
		in := a
		in.s = copied(a.s)
		first, second := predicts(t, in), predicts(t, in)
		fill(first.M.A)
		if !slices.Equal(first.V, want.V) {
			t.Errorf("P19.1: of %v: two lists are one", a)
		}
		fill(first.V)
		stays(t, in.s, a.s)
		if !same(second, want) {
			t.Errorf("P19.1: of %v: %v behind a change of another one", a, second)
		}
		fill(in.s.M.A)
		fill(in.s.V)
		if !same(second, want) {
			t.Errorf("P19.1: of %v: %v behind a change of what was handed in", a, second)
		}
		predictIs(t, a, want)
	}
}

// fill fills a list, and the spare room behind it.
func fill(l []int64) {
	l = l[:cap(l)]
	for i := range l {
		l[i] = spare
	}
}

// TestErrorsAreTheCallers: who changes an error that was told changes no other one.
func TestErrorsAreTheCallers(t *testing.T) {
	s := alone(100, 0, 100, 1000, 2000)
	for _, a := range []asked{{}, open(s, at(0, 0), 0), open(with(s, 0, 0, -5), at(0, 0), 5), open(alone(-1, 0, 0, top, 0), at(0, 0), 2), {s, at(0, 0), 100, 50, 100}, {s, at(0, 0), 100, 49, 50}} {
		ask := func() error {
			_, err := motion.Predict(a.s, a.u, a.stiff, a.least, a.most)
			return err
		}
		first, second := ask(), ask()
		f, ok := first.(*fault.Fault)
		if !ok {
			t.Fatalf("P19.1: %v is no fault", first)
		}
		number := fault.Code(first)
		if inner, ok := f.Err.(*fault.Fault); ok {
			inner.Op, inner.Err = "changed", nil
		}
		f.Op, f.Err = "changed", nil
		isWrong(t, "P19.1", second, number)
		isWrong(t, "P19.1", ask(), number)
	}
}

// TestOtherOps: of bound's errors bound's op is found behind motion's.
func TestOtherOps(t *testing.T) {
	s := alone(100, 0, 100, 1000, 2000)
	for _, a := range []asked{{s, at(0, 0), 100, 50, 100}, {s, at(0, 0), 100, 49, 50}} {
		_, err := predict(t, a)
		if ops := fault.Ops(err); !slices.Equal(ops, []string{"motion", "bound"}) {
			t.Errorf("P19.1: Predict(%v): ops %q", a, ops)
		}
	}
}

// TestSameAgain: the same is told of the same, whatever was told between, and by many at a time.
func TestSameAgain(t *testing.T) {
	s := links(rowsOf(8))[3]
	want, number := predicted(open(s, at(700, -300), 900))
	if number != 0 {
		t.Fatalf("P19.1: %v", number)
	}
	done := make(chan bool)
	for range 8 {
		go func() {
			defer func() { done <- true }()
			for range 40 {
				predictIs(t, open(s, at(700, -300), 900), want)
				predictFails(t, asked{s, at(700, -300), 900, 1, 2}, 31)
				predictFails(t, open(s, at(0, 0), 0), 27)
			}
		}()
	}
	for range 8 {
		<-done
	}
}
