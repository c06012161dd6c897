package line_test

import (
	"math"
	"slices"
	"testing"

	"leadline/api"
	"leadline/fault"
	"leadline/line"
)

// told tells what a row says of numbers: the sum of its products with them.
func told(row, x []int64) int64 {
	var sum int64
	for i, v := range row {
		sum += v * x[i]
	}
	return sum
}

// TestTwoPlaces: the row of a line, of both places' numbers, tells about as much as the line is long: it tells of the one place as much as of the other, and of no third one.
func TestTwoPlaces(t *testing.T) {
	d := thrown(3)
	for range 20000 {
		from, to := somewhere(d), somewhere(d)
		l, err := line.Of(from, to)
		if err != nil {
			continue
		}
		for _, a := range rows() {
			row, err := line.Row(a.n, a.at, l.H)
			if err != nil {
				t.Fatalf("P16.2: Row(%d, %d, %d): %v", a.n, a.at, l.H, err)
			}
			x := make([]int64, a.n)
			for i := range x {
				x[i] = upTo(d, farthest) // whatever the others' places are
			}
			x[0], x[1], x[a.at], x[a.at+1] = to.X, to.Y, from.X, from.Y
			if far := told(row, x); max(far-unit*l.R, unit*l.R-far) > l.R+unit {
				t.Fatalf("P16.2: from %v to %v: %d of %v tells %d", from, to, row, x, far)
			}
			was := told(row, x)
			by := at(upTo(d, 100000), upTo(d, 100000))
			for i := 0; i < 2; i++ { // both go the same way
				x[i] += []int64{by.X, by.Y}[i]
				x[a.at+i] += []int64{by.X, by.Y}[i]
			}
			if is := told(row, x); is != was {
				t.Fatalf("P16.2: both of %v by %v: %d instead of %d", x, by, is, was)
			}
		}
	}
}

// TestTwoPlacesKnown: who goes a metre along the line is so much farther off, who goes a metre across isn't; it is the same if the other one goes the other way.
func TestTwoPlacesKnown(t *testing.T) {
	l, err := line.Of(at(1000, 1000), at(4000, 5000))
	if err != nil {
		t.Fatal(err)
	}
	row, err := line.Row(6, 4, l.H)
	if err != nil {
		t.Fatal(err)
	}
	for _, x := range []struct {
		by   []int64
		want int64
	}{
		{[]int64{600, 800, 0, 0, 0, 0}, 256400},
		{[]int64{0, 0, 0, 0, -600, -800}, 256400},
		{[]int64{0, 0, 0, 0, 600, 800}, -256400},
		{[]int64{205, -154, 0, 0, 0, 0}, 0},
		{[]int64{0, 0, 0, 0, 205, -154}, 0},
		{[]int64{0, 0, 600, 800, 0, 0}, 0},
		{[]int64{600, 800, 5, 5, 600, 800}, 0},
	} {
		if is := told(row, x.by); is != x.want {
			t.Errorf("P16.2: %d tells %d of %d instead of %d", row, is, x.by, x.want)
		}
	}
}

// TestTwoEnds: from either end of a line R is the same, and the direction the other one, but for halves, of which the greater number is told at both ends.
func TestTwoEnds(t *testing.T) {
	d := thrown(4)
	for range 50000 {
		from, to := somewhere(d), somewhere(d)
		there, err := line.Of(from, to)
		if err != nil {
			continue
		}
		back, err := line.Of(to, from)
		if err != nil || back.R != there.R {
			t.Fatalf("P16.2: from %v to %v: %v, and back %v, %v", from, to, there, back, err)
		}
		way := [2]int64{to.X - from.X, to.Y - from.Y}
		for i, part := range there.H {
			both := int64(0)
			if amount := max(way[i], -way[i]); 2*unit*amount%there.R == 0 && 2*unit*amount/there.R%2 == 1 {
				both = 1
			}
			if part+back.H[i] != both {
				t.Fatalf("P16.2: from %v to %v: %v, and back %v", from, to, there, back)
			}
		}
	}
	ofIs(t, at(0, 0), at(66, 1022), 17, 256, 1024) // 16.5, 255.5
	ofIs(t, at(66, 1022), at(0, 0), -16, -255, 1024)
}

// TestMovedTogether: where both places are the same way off, the line is the same.
func TestMovedTogether(t *testing.T) {
	d := thrown(5)
	for range 20000 {
		from, to := at(upTo(d, farthest/2), upTo(d, farthest/2)), at(upTo(d, farthest/2), upTo(d, farthest/2))
		by := at(upTo(d, farthest/2), upTo(d, farthest/2))
		l, err := line.Of(from, to)
		if err != nil {
			continue
		}
		ofIs(t, at(from.X+by.X, from.Y+by.Y), at(to.X+by.X, to.Y+by.Y), l.H[0], l.H[1], l.R)
	}
}

// TestRowIsTheCallers: who changes a list that was told, its spare room too, changes no other one, nor the parts that were handed in.
func TestRowIsTheCallers(t *testing.T) {
	for _, a := range rows() {
		a.h = [2]int64{154, -205}
		first, err := line.Row(a.n, a.at, a.h)
		if err != nil || len(first) != a.n {
			t.Fatalf("P16.1: Row%v: %d, %v", a, first, err)
		}
		second, _ := line.Row(a.n, a.at, a.h)
		was := slices.Clone(second)
		first = first[:cap(first)]
		for i := range first {
			first[i] = 424242
		}
		if a.h != [2]int64{154, -205} || !slices.Equal(second, was) {
			t.Errorf("P16.1: Row%v: %d instead of %d behind a change of another list", a, second, was)
		}
		rowIs(t, a, was...)
	}
}

// TestErrorsAreTheCallers: who changes an error that was told changes no other one.
func TestErrorsAreTheCallers(t *testing.T) {
	_, first := line.Of(at(0, 0), at(999, 0))
	_, second := line.Of(at(0, 0), at(999, 0))
	_, third := line.Row(4, 3, [2]int64{})
	f, ok := first.(*fault.Fault)
	if !ok {
		t.Fatalf("P16.1: %v is no fault", first)
	}
	f.Op, f.Err = "changed", nil
	isWrong(t, "P16.1: Of", "again", second, api.ErrNear)
	isWrong(t, "P16.1: Row", "again", third, api.ErrRange)
	ofFails(t, at(0, 0), at(999, 0), api.ErrNear)
}

// TestSameAgain: the same is told of the same, whatever was told between, and by many at a time.
func TestSameAgain(t *testing.T) {
	done := make(chan bool)
	for range 8 {
		go func() {
			defer func() { done <- true }()
			for range 300 {
				ofIs(t, at(123456, -654321), at(-987654, 321012), -192, 169, 1478458)
				ofFails(t, at(123456, -654321), at(-4194305, 321012), 21)
				ofFails(t, at(123456, -654321), at(123456, -654320), 33)
				rowIs(t, asked{6, 4, [2]int64{-192, 169}}, -192, 169, 0, 0, 192, -169)
				rowFails(t, asked{6, 5, [2]int64{-192, 169}}, 20)
				rowFails(t, asked{6, 4, [2]int64{-192, math.MinInt64}}, 21)
			}
		}()
	}
	for range 8 {
		<-done
	}
}
