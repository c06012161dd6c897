package elim

import (
	"leadline/api"
	"leadline/fault"
	"leadline/sym"
	"leadline/wide"
)

// Rows are taken off one another without fractions: each number that is left is a determinant of a part of the rows at the start, so it is whole, and the next division by the last leading number leaves no rest.
// The rows at the start are at most MaxDim, of numbers of at most 2 MaxEntry (leading adds rows once): such a determinant has at most 264 bits, and a Wide has what two of them make.

// wrong tells the fault of that number.
func wrong(n api.Errno) error {
	return fault.Wrap("elim", n)
}

// square tells all entries of m, which is right, row by row.
func square(m api.Sym) [][]api.Wide {
	var rows [][]api.Wide
	for i := range m.N {
		var row []api.Wide
		for j := range m.N {
			v, _ := sym.At(m, i, j) // m is right, so there is such an entry
			row = append(row, wide.Of(v))
		}
		rows = append(rows, row)
	}
	return rows
}

// leading tells a first row that doesn't begin with nought and leaves the determinant as it is: the first one, or another added to it; false, if all of them begin with nought.
func leading(rows [][]api.Wide) ([]api.Wide, bool) {
	first := rows[0]
	if wide.Sign(first[0]) != 0 {
		return first, true
	}
	for _, row := range rows[1:] {
		if wide.Sign(row[0]) != 0 {
			return added(first, row), true
		}
	}
	return nil, false
}

// added tells both rows together, number by number.
func added(a, b []api.Wide) []api.Wide {
	sum := append([]api.Wide(nil), a...)
	for i := range sum {
		sum[i], _ = wide.Add(sum[i], b[i])
	}
	return sum
}

// fewer tells what is left of the others, when first, which doesn't begin with nought, is taken off them and their first column goes; last is what the first row began with one step ahead.
func fewer(first []api.Wide, others [][]api.Wide, last api.Wide) [][]api.Wide {
	var rows [][]api.Wide
	for _, row := range others {
		rows = append(rows, takenOff(first, row, last))
	}
	return rows
}

// takenOff tells what is left of a row behind its first number: as many times as first begins with, less first as many times as the row begins with, over last.
func takenOff(first, row []api.Wide, last api.Wide) []api.Wide {
	left := append([]api.Wide(nil), row[1:]...)
	for i := range left {
		own, _ := wide.Mul(first[0], left[i])
		off, _ := wide.Mul(row[0], first[i+1])
		rest, _ := wide.Sub(own, off)
		left[i], _, _ = wide.Div(rest, last)
	}
	return left
}
