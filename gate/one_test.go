package gate_test

import (
	"slices"
	"testing"

	"leadline/api"
	"leadline/gate"
)

// TestOneBadRange: among ranges that pass one is far off: it doesn't pass; the others pass as they did, and the score is as it was behind two more of them.
func TestOneBadRange(t *testing.T) {
	m, h := matrix(4, 500, 20, -300, -10, 600, -10, -350, 500, 20, 600), []int64{154, 205, -154, -205}
	good := []int64{0, 3, -7, 12, 25, -25, 31, -2, 9, -14}
	for _, bad := range []int64{1000, -1000, 1 << 20, farthest, -farthest} {
		score := 0
		for i, off := range slices.Concat(good, good) {
			if i == 6 {
				was := score
				gated(t, asked{m, h, bad, 4, 9})
				score = gate.Quality(score, false)
				if score != was-2 {
					t.Errorf("P17.3: %d behind a bad range instead of %d", score, was-2)
				}
			}
			passes(t, asked{m, h, off, 4, 9})
			score = gate.Quality(score, true)
			if i == 7 && score != 6 {
				t.Errorf("P17.3: %d behind two more instead of 6", score)
			}
		}
		if score != 8 {
			t.Errorf("P17.3: %d behind many good ranges", score)
		}
	}
}

// TestManyBadRanges: however many are bad, as many good ones as there are scores make it the best; however many were good, one bad one makes it two less.
func TestManyBadRanges(t *testing.T) {
	for many := range 40 {
		score := 8
		for range many {
			score = gate.Quality(score, false)
		}
		if score != max(8-2*many, -8) {
			t.Errorf("P17.2: %d behind %d bad ranges", score, many)
		}
		for range 16 {
			score = gate.Quality(score, true)
		}
		if score != 8 {
			t.Errorf("P17.3: %d behind %d bad ranges and 16 good ones", score, many)
		}
		for range many {
			score = gate.Quality(score, true)
		}
		qualityIs(t, score, false, 6)
	}
}

// TestFartherNeverPasses: what is farther off never passes where what is nearer doesn't; nor does it with more weight, or with a gate that is less wide.
func TestFartherNeverPasses(t *testing.T) {
	d, some := thrown(3), 0
	for range 3000 {
		n := d.IntN(5)
		a := asked{heavy(d, n, 1+d.Int64N(5000)), vector(d, n, 256), upTo(d, 1500), 1 + d.Int64N(100), 1 + d.Int64N(100)}
		if pass(t, a) == nil {
			continue
		}
		some++
		for _, more := range []int64{1, 2, 100, 5000, farthest - max(a.off, -a.off)} {
			b := a
			if b.off += more; a.off < 0 {
				b.off = a.off - more
			}
			gated(t, b)
			b = a
			b.weight = min(a.weight+more, heaviest)
			gated(t, b)
			b = a
			b.gamma = max(a.gamma-more, 1)
			gated(t, b)
		}
	}
	if some < 500 {
		t.Errorf("P17.3: %d didn't pass", some)
	}
}

// spare: what lies in the spare room behind a list.
const spare = 424242

// roomy tells the list with spare room behind it, and that room with it.
func roomy(l []int64) ([]int64, []int64) {
	room := slices.Repeat([]int64{spare}, len(l)+60)
	copy(room, l)
	return room[:len(l)], room
}

// TestNothingIsChanged: what is handed in stays as it was, the spare room behind its lists included, whatever is told.
func TestNothingIsChanged(t *testing.T) {
	d := thrown(4)
	l := wrongs()
	for n := range 9 {
		l = append(l, heavy(d, n, edge), narrow(d, n, 50), diagonal(n, 0, 0))
	}
	for _, m := range l {
		for n := range 10 {
			for _, most := range []int64{5, top, 4 * top} {
				for _, off := range []int64{0, -farthest, farthest + 1} {
					entries, a := roomy(m.A)
					h, b := roomy(vector(d, n, most))
					wasA, wasB := slices.Clone(a), slices.Clone(b)
					gate.Pass(api.Sym{N: m.N, A: entries}, h, off, 3, 9)
					if !slices.Equal(a, wasA) || !slices.Equal(b, wasB) {
						t.Errorf("P17.1: of %v, %d, %d: what was handed in is %d, %d", m, h, off, a, b)
					}
				}
			}
		}
	}
}

// TestOneListTwice: the same list as the matrix's entries and as the direction is two lists.
func TestOneListTwice(t *testing.T) {
	l := []int64{5}
	passes(t, asked{api.Sym{N: 1, A: l}, l, 2, 1, 1}) // the spread is 5, and one more
	gated(t, asked{api.Sym{N: 1, A: l}, l, 3, 1, 1})
}

// TestSameAgain: the same is told of the same, whatever was told between, and by many at a time.
func TestSameAgain(t *testing.T) {
	m, h := matrix(2, 2, 1, 2), []int64{1, -1}
	done := make(chan bool)
	for range 8 {
		go func() {
			defer func() { done <- true }()
			for range 200 {
				passes(t, asked{m, h, 5, 2, 10})
				gated(t, asked{m, h, 6, 2, 10})
				fails(t, asked{m, h, 6, 0, 10}, 27)
				asksSolve(t, asked{matrix(2, 1, 1, 1), h, 6, 2, 10}, 30)
				qualityIs(t, 0, false, -2)
			}
		}()
	}
	for range 8 {
		<-done
	}
}
