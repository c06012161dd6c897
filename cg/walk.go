package cg

import (
	"errors"

	"leadline/api"
	"leadline/fault"
	"leadline/solve"
)

// place: whole numbers, and their Residual.
type place struct {
	x   []int64
	off int64
}

// wrong tells the fault of that error; nil of nil.
func wrong(err error) error {
	return fault.Wrap("cg", err)
}

// walk tells the nearest place of all on the way from start on, start among them, and how many steps were taken.
func walk(m api.Sym, v, start []int64, most int, enough int64) (place, int, error) {
	if _, err := solve.Near(m, v); err != nil {
		return place{}, 0, wrong(err)
	}
	best, err := placed(m, start, v)
	if err != nil {
		return place{}, 0, wrong(err)
	}
	best.x = append([]int64(nil), start...) // it may be the answer, and start is the caller's
	steps := 0
	for w := begin(m, start, v); best.off > enough && steps < min(most, api.MaxIter) && w.step(); steps++ {
		here, err := w.place()
		if errors.Is(err, api.ErrOver) {
			continue // this one can't be told; the next one may be
		}
		if err != nil {
			return place{}, 0, wrong(err)
		}
		if here.off < best.off { // by Residual not each step leads nearer
			best = here
		}
	}
	return best, steps, nil
}

// placed tells the place of x, or Residual's error.
func placed(m api.Sym, x, v []int64) (place, error) {
	off, err := solve.Residual(m, x, v)
	if err != nil {
		return place{}, err
	}
	return place{x: x, off: off}, nil
}
