package solve

import (
	"leadline/api"
	"leadline/elim"
	"leadline/fault"
	"leadline/fx"
	"leadline/sym"
	"leadline/wide"
)

// wrong tells the fault of that error.
func wrong(err error) error {
	return fault.Wrap("solve", err)
}

// fitting tells ErrSize, unless m is right and all lists have as many numbers as it has rows; then ErrOver of a number that is too great.
func fitting(m api.Sym, lists ...[]int64) error {
	if !sym.Right(m) {
		return wrong(api.ErrSize)
	}
	for _, l := range lists {
		if len(l) != m.N {
			return wrong(api.ErrSize)
		}
	}
	for _, l := range lists {
		for _, v := range l {
			if !fits(v) {
				return wrong(api.ErrOver)
			}
		}
	}
	return nil
}

// solvable tells fitting's errors, then ErrLoose, unless m is definite.
func solvable(m api.Sym, v []int64) error {
	if err := fitting(m, v); err != nil {
		return err
	}
	if !elim.Definite(m) {
		return wrong(api.ErrLoose)
	}
	return nil
}

// fits tells whether v may be a vector's number.
func fits(v int64) bool {
	amount, ok := fx.Amount(v)
	return ok && amount <= api.MaxVector
}

// nearest tells the whole number nearest to f, of two the greater one; false (0), if an int64 hasn't it.
func nearest(f api.Frac) (int64, bool) {
	n, ok := wide.Round(f.Num, f.Den)
	if !ok {
		return 0, false
	}
	return wide.Int64(n)
}

// amount tells a without its sign. (Here, and in what follows, numbers are so far below the greatest Wide that there is room.)
func amount(a api.Wide) api.Wide {
	if wide.Sign(a) < 0 {
		return less(api.Wide{}, a)
	}
	return a
}

// plus tells a and b together.
func plus(a, b api.Wide) api.Wide {
	sum, _ := wide.Add(a, b)
	return sum
}

// less tells a less b.
func less(a, b api.Wide) api.Wide {
	rest, _ := wide.Sub(a, b)
	return rest
}

// times tells a times b.
func times(a, b api.Wide) api.Wide {
	product, _ := wide.Mul(a, b)
	return product
}
