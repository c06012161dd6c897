package info_test

import (
	"slices"
	"testing"

	"leadline/api"
	"leadline/fault"
	"leadline/info"
)

// spare: what lies in the spare room behind a list.
const spare = 424242

// roomy tells the list with spare room behind it, and that room with it.
func roomy(l []int64) ([]int64, []int64) {
	room := slices.Repeat([]int64{spare}, len(l)+60)
	copy(room, l)
	return room[:len(l)], room
}

// askAll asks all calls of s; it tells what they told.
func askAll(s api.State) ([]api.State, [][]int64) {
	info.Right(s)
	mean, _ := info.Mean(s)
	var states []api.State
	for slot := -1; slot <= slots; slot++ {
		info.Place(s, slot)
		more, _ := info.Add(s, slot, at(5, 7), 9)
		none, _ := info.Add(s, slot, at(5, 7), 0)
		states = append(states, more, none)
		for _, r := range []int64{-1, 5000, 53000} {
			fused, _ := info.Fuse(s, open(3), slot, r)
			tight, _ := info.Fuse(s, config(3, widest, 1, 2), slot, r)
			states = append(states, fused, tight)
		}
	}
	return states, [][]int64{mean}
}

// lists tells all lists of these states, and these lists.
func lists(states []api.State, l [][]int64) [][]int64 {
	for _, s := range states {
		l = append(l, s.M.A, s.V)
	}
	return l
}

// asks tells states of all sorts: right ones, definite or not, and such as aren't right.
func asks() []api.State {
	d := thrown(14)
	l := wrongs()[:300]
	for _, rows := range orders() {
		n := sizeOf(rows)
		l = append(l, spread(rows, 5), spread(rows, 0), spread(rows, edge), api.State{M: heavy(d, n, edge), V: vector(d, n, top), Row: rows})
		if n > 2 {
			x := make([]int64, n)
			x[0], x[1] = 3000, 4000
			l = append(l, placed(even(n, 1000), x, rows))
		}
	}
	return l
}

// TestNothingIsChanged: what is handed in stays as it was, the spare room behind its lists included, whatever is told.
func TestNothingIsChanged(t *testing.T) {
	for _, s := range asks() {
		in := s
		var a, b []int64
		in.M.A, a = roomy(s.M.A)
		in.V, b = roomy(s.V)
		wasA, wasB := slices.Clone(a), slices.Clone(b)
		askAll(in)
		if !slices.Equal(a, wasA) || !slices.Equal(b, wasB) || in.Row != s.Row {
			t.Errorf("P18.1, P18.2, P18.3: of %v: what was handed in is %d, %d", s, a, b)
		}
	}
}

// TestNewMemory: what is told is the caller's own: who changes one list of it, its spare room too, changes nothing that was handed in, no other list, nor what is told next.
func TestNewMemory(t *testing.T) {
	for _, s := range asks() {
		if !info.Right(s) {
			continue
		}
		in := copied(s)
		states, means := askAll(in)
		all := lists(states, means)
		was := make([][]int64, len(all))
		for i := range all {
			was[i] = slices.Clone(all[i])
		}
		for i, l := range all {
			room := l[:cap(l)]
			for j := range room {
				room[j] = spare
			}
			for k := i + 1; k < len(all); k++ {
				if !slices.Equal(all[k], was[k]) {
					t.Fatalf("P18.1, P18.2, P18.3: of %v: two lists are one", s)
				}
			}
		}
		stays(t, "P18.1, P18.2, P18.3: of what was changed then", in, s)
		states, means = askAll(in)
		for i, l := range lists(states, means) {
			if !slices.Equal(l, was[i]) {
				t.Errorf("P18.1, P18.2, P18.3: of %v: %d instead of %d behind a change of another list", s, l, was[i])
			}
		}
	}
}

// TestNotKept: who changes what was handed in changes nothing that was told.
func TestNotKept(t *testing.T) {
	for _, s := range asks() {
		if !info.Right(s) {
			continue
		}
		in := copied(s)
		states, means := askAll(in)
		all := lists(states, means)
		was := make([][]int64, len(all))
		for i := range all {
			was[i] = slices.Clone(all[i])
		}
		for _, l := range [][]int64{in.M.A, in.V} {
			for i := range l {
				l[i] = spare
			}
		}
		for i, l := range all {
			if !slices.Equal(l, was[i]) {
				t.Errorf("P18.1, P18.2, P18.3: of %v: %d instead of %d behind a change of what was handed in", s, l, was[i])
			}
		}
	}
}

// TestNewIsTheCallers: who changes a state that New told changes none that it tells next.
func TestNewIsTheCallers(t *testing.T) {
	first, _ := info.New(at(3, 4), 5)
	second, _ := info.New(at(3, 4), 5)
	for _, l := range [][]int64{first.M.A, first.V} {
		for i := range l {
			l[i] = spare
		}
	}
	want := known(2, []int64{5, 0, 5}, []int64{15, 20}, -1, -1, -1)
	isState(t, "P18.1: New", second, nil, want)
	third, err := info.New(at(3, 4), 5)
	isState(t, "P18.1: New", third, err, want)
}

// TestErrorsAreTheCallers: who changes an error that was told changes no other one.
func TestErrorsAreTheCallers(t *testing.T) {
	near := two(at(10, 0), at(0, 0), 0, 1)
	for _, ask := range []func() error{
		func() error { _, err := info.New(at(0, 0), 0); return err },
		func() error { _, err := info.Mean(api.State{}); return err },
		func() error { _, err := info.Mean(with(near, 0, 0, 0)); return err },
		func() error { _, err := info.Place(near, 7); return err },
		func() error { _, err := info.Place(near, 1); return err },
		func() error { _, err := info.Add(near, 0, at(0, 0), 1); return err },
		func() error { _, err := info.Add(near, 7, at(0, 0), 1); return err },
		func() error { _, err := info.Fuse(near, open(1), 0, 10); return err },
		func() error { _, err := info.Fuse(metres(1, 1000), open(1), 1, longest); return err },
		func() error { _, err := info.Fuse(metres(1, 1000), config(1, 1, 0, 0), 1, 5000); return err },
	} {
		first, second := ask(), ask()
		f, ok := first.(*fault.Fault)
		if !ok {
			t.Fatalf("P18.1: %v is no fault", first)
		}
		number := fault.Code(first)
		if inner, ok := f.Err.(*fault.Fault); ok {
			inner.Op, inner.Err = "changed", nil
		}
		f.Op, f.Err = "changed", nil
		isWrong(t, "P18.1, P18.2, P18.3", second, number)
		isWrong(t, "P18.1, P18.2, P18.3", ask(), number)
	}
}

// TestOtherOps: of another layer's error that layer's op is found behind info's.
func TestOtherOps(t *testing.T) {
	near, s := two(at(10, 0), at(0, 0), 0, 1), metres(0, 1000)
	for _, x := range []struct {
		a    asked
		want string
	}{
		{asked{with(s, 0, 0, 0), open(1), 0, 5000}, "solve"},
		{asked{near, open(1), 0, 10}, "line"},
		{asked{s, open(1), 0, longest}, "gate"},
		{asked{placed(even(4, edge), []int64{3000, 4000, 0, 0}, s.Row), open(1), 0, 5000}, "sym"},
		{asked{s, config(1, 1, 0, 0), 0, 5000}, "bound"},
	} {
		_, err := fuse(t, x.a)
		if ops := fault.Ops(err); !slices.Contains(ops, x.want) || ops[0] != "info" {
			t.Errorf("P18.3: Fuse(%v): ops %q without %q", x.a, ops, x.want)
		}
	}
}

// TestSameAgain: the same is told of the same, whatever was told between, and by many at a time.
func TestSameAgain(t *testing.T) {
	s := metres(0, 1000)
	want, number := fused(asked{s, config(2, 1000, 1, edge), 0, 5003})
	if number != 0 {
		t.Fatalf("P18.3: %v", number)
	}
	done := make(chan bool)
	for range 8 {
		go func() {
			defer func() { done <- true }()
			for range 40 {
				fuseIs(t, asked{s, config(2, 1000, 1, edge), 0, 5003}, want)
				fuseFails(t, asked{s, config(2, 1000, 1, 2), 0, 5003}, 31)
				placeIs(t, s, -1, at(3000, 4000))
				addIs(t, s, 2, at(1, 2), 3, added(s, 2, at(1, 2), 3))
				addFails(t, s, 0, at(1, 2), 3, 37)
			}
		}()
	}
	for range 8 {
		<-done
	}
}
