package sparse_test

import (
	"math"
	"slices"
	"testing"

	"leadline/api"
	"leadline/fault"
	"leadline/sparse"
)

// spare: what lies in the spare room behind a list.
const spare = 424242

// roomy tells the list with spare room behind it, and that room with it.
func roomy(l []int64) ([]int64, []int64) {
	room := slices.Repeat([]int64{spare}, len(l)+60)
	copy(room, l)
	return room[:len(l)], room
}

// asks tells what may be asked, of all sorts: what is taken, linked or not, and all that isn't.
func asks() []asked {
	d := thrown(16)
	var l []asked
	for _, s := range wrongs()[:200] {
		l = append(l, open(s, 0))
	}
	for _, rows := range orders() {
		n := sizeOf(rows)
		for _, s := range append(links(rows), spread(rows, 5), spread(rows, -5), api.State{M: heavy(d, n, edge), V: vector(d, n, top), Row: rows}) {
			for slot := -1; slot <= slots; slot++ {
				l = append(l, open(s, slot), asked{s, slot, 3000}, asked{s, slot, math.MaxInt64})
			}
		}
	}
	for _, past := range []int64{0, 9} {
		l = append(l, open(pulled(4, 0, 2, 1, top/9*8+past), 0), open(pulled(8, 4, 1, -1, top/9*8+past), 1))
	}
	return l
}

// TestNothingIsChanged: what is handed in stays as it was, the spare room behind its lists included, whatever is told.
func TestNothingIsChanged(t *testing.T) {
	for _, a := range asks() {
		in := a
		var m, v []int64
		in.s.M.A, m = roomy(a.s.M.A)
		in.s.V, v = roomy(a.s.V)
		wasM, wasV := slices.Clone(m), slices.Clone(v)
		linkHolds(t, in.s, in.slot)
		weakestIs(t, in.s, weakestOf(in.s))
		cutHolds(t, in)
		if !slices.Equal(m, wasM) || !slices.Equal(v, wasV) {
			t.Errorf("P20.1, P20.2: of %v: what was handed in is %d, %d", a, m, v)
		}
	}
}

// TestNewMemory: what is told is the caller's own, of a Link of 0 too: who changes one list of it, its spare room too, changes nothing that was handed in, not the other list, nor what is told next; who changes what was handed in changes nothing that was told.
func TestNewMemory(t *testing.T) {
	held := map[bool]int{}
	for _, a := range asks() {
		want, number := cutOf(a)
		if number != 0 {
			continue
		}
		in := a
		in.s = copied(a.s)
		in.s.M.A, _ = roomy(a.s.M.A)
		in.s.V, _ = roomy(a.s.V)
		first, second := cuts(t, in), cuts(t, in)
		fill(first.M.A)
		if !slices.Equal(first.V, want.V) {
			t.Errorf("P20.2: of %v: two lists are one", a)
		}
		fill(first.V)
		stays(t, "P20.2: Cut", in.s, a.s)
		if !same(second, want) {
			t.Errorf("P20.2: of %v: %v behind a change of another one", a, second)
		}
		fill(in.s.M.A)
		fill(in.s.V)
		if !same(second, want) {
			t.Errorf("P20.2: of %v: %v behind a change of what was handed in", a, second)
		}
		cutIs(t, a, want)
		link, _ := linkOf(a.s, a.slot)
		held[link == 0]++
	}
	if held[true] < 20 || held[false] < 20 {
		t.Errorf("P20.2: %v", held)
	}
}

// fill fills a list, and the spare room behind it.
func fill(l []int64) {
	l = l[:cap(l)]
	for i := range l {
		l[i] = spare
	}
}

// TestErrorsAreTheCallers: who changes an error that was told changes no other one.
func TestErrorsAreTheCallers(t *testing.T) {
	s := known(4, []int64{100, 0, 30, 0, 90, 0, 0, 70, 0, 80}, make([]int64, 4), 2, -1, -1)
	for _, ask := range []func() error{
		func() error { _, err := sparse.Link(api.State{}, 0); return err },
		func() error { _, err := sparse.Link(s, 7); return err },
		func() error { _, err := sparse.Link(s, 1); return err },
		func() error { _, err := sparse.Cut(api.State{}, 0, 0); return err },
		func() error { _, err := sparse.Cut(s, -1, 0); return err },
		func() error { _, err := sparse.Cut(s, 2, 0); return err },
		func() error { _, err := sparse.Cut(with(s, 0, 0, 0), 0, 0); return err },
		func() error { _, err := sparse.Cut(pulled(4, 0, 2, 1, top/9*8+9), 0, 0); return err },
		func() error { _, err := sparse.Cut(s, 0, 100); return err },
	} {
		first, second := ask(), ask()
		f, ok := first.(*fault.Fault)
		if !ok {
			t.Fatalf("P20.2: %v is no fault", first)
		}
		number := fault.Code(first)
		if inner, ok := f.Err.(*fault.Fault); ok {
			inner.Op, inner.Err = "changed", nil
		}
		f.Op, f.Err = "changed", nil
		isWrong(t, "P20.1, P20.2", second, number)
		isWrong(t, "P20.1, P20.2", ask(), number)
	}
}

// TestOtherOps: of the mean's errors info's op and solve's are found behind sparse's.
func TestOtherOps(t *testing.T) {
	s := known(4, []int64{2, -1, 0, 0, 1, 0, 0, 70, 0, 80}, []int64{top, top, 0, 0}, 2, -1, -1)
	for _, a := range []asked{open(s, 0), open(with(s, 3, 3, 0), 0), open(with(s, 0, 2, 200), 0)} {
		_, err := cut(t, a)
		if ops := fault.Ops(err); !slices.Equal(ops, []string{"sparse", "info", "solve"}) {
			t.Errorf("P20.2: Cut(%v): ops %q", a, ops)
		}
	}
}

// TestSameAgain: the same is told of the same, whatever was told between, and by many at a time.
func TestSameAgain(t *testing.T) {
	s := links([slots]int{4, 6, 2})[3]
	want, number := cutOf(open(s, 1))
	if number != 0 {
		t.Fatalf("P20.2: %v", number)
	}
	amount, _ := linkOf(s, 1)
	done := make(chan bool)
	for range 8 {
		go func() {
			defer func() { done <- true }()
			for range 40 {
				cutIs(t, open(s, 1), want)
				linkIs(t, s, 1, amount)
				weakestIs(t, s, weakestOf(s))
				cutFails(t, asked{s, 1, 1 << 31}, 30)
				linkFails(t, s, 7, 20)
			}
		}()
	}
	for range 8 {
		<-done
	}
}
