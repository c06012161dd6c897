package sparse

import (
	"leadline/api"
	"leadline/fault"
	"leadline/fx"
	"leadline/sym"
	"leadline/wide"
)

// An entry v of a link, with its amount on both diagonal entries that it stands by, is a matrix that tells nothing below nought in any direction. So what is taken off the matrix is something that was known, and nothing is known behind a cut that wasn't ahead of it.

// pair: two numbers, one of each row of a place.
type pair [2]int64

// link: the entries that link a beacon to the vehicle: of each of the vehicle's rows those in the beacon's columns.
type link [2]pair

// linkOf tells m's link to the beacon whose first row that is; m is right, and has it.
func linkOf(m api.Sym, row int) link {
	var l link
	for p := range l {
		for q := range l[p] {
			l[p][q] = entry(m, p, row+q)
		}
	}
	return l
}

// amounts tells the entries without their signs.
func (l link) amounts() link {
	for p, row := range l {
		for q, v := range row {
			l[p][q], _ = fx.Amount(v) // no entry is the one number that has no amount
		}
	}
	return l
}

// sums tells what the numbers of each row come to, and those of each column.
func (l link) sums() (rows, columns pair) {
	for p, row := range l {
		for q, v := range row {
			rows[p] += v
			columns[q] += v
		}
	}
	return rows, columns
}

// apart tells m without the link to the beacon whose first row that is; sym's ErrOver of a diagonal entry that would be too great.
func apart(m api.Sym, row int) (api.Sym, error) {
	rows, columns := linkOf(m, row).amounts().sums()
	for p := range rows {
		for q := range columns {
			m, _ = sym.Set(m, p, row+q, 0) // such an entry is there, and nought is never too great
		}
	}
	var err error
	for i := range rows {
		if m, err = lessAt(m, i, rows[i]); err != nil {
			return api.Sym{}, err
		}
		if m, err = lessAt(m, row+i, columns[i]); err != nil {
			return api.Sym{}, err
		}
	}
	return m, nil
}

// lessAt tells m with its i-th diagonal entry less by v; sym's ErrOver, if it would be too great.
func lessAt(m api.Sym, i int, v int64) (api.Sym, error) {
	return sym.Set(m, i, i, entry(m, i, i)-v)
}

// settled tells V for the matrix behind: what is taken off s's matrix, times the mean, is taken off V, so that the mean stays; false (nothing), if a number would be too great.
func settled(s api.State, behind api.Sym, mean []int64) ([]int64, bool) {
	had, _ := sym.Times(s.M, mean) // both matrices are right, and have as many rows as the mean has numbers
	has, _ := sym.Times(behind, mean)
	var v []int64
	for i := range s.V {
		number, ok := wide.Int64(less(wide.Of(s.V[i]), less(had[i], has[i])))
		if !ok || !upTo(number, api.MaxVector) {
			return nil, false
		}
		v = append(v, number)
	}
	return v, true
}

// entry tells m's entry (i, j), either way round; it is there, and m is right.
func entry(m api.Sym, i, j int) int64 {
	v, _ := sym.At(m, i, j)
	return v
}

// less tells a less b. (There is room: nothing that is asked for has more than 92 bits.)
func less(a, b api.Wide) api.Wide {
	rest, _ := wide.Sub(a, b)
	return rest
}

// upTo tells whether v's amount is at most that.
func upTo(v, most int64) bool {
	amount, ok := fx.Amount(v)
	return ok && amount <= most
}

// wrong tells the fault of that error.
func wrong(err error) error {
	return fault.Wrap("sparse", err)
}
