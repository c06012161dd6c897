package solve

import (
	"leadline/api"
	"leadline/sym"
	"leadline/wide"
)

// Rows are taken off one another without fractions. v is one more column of m, so each number that is left is, but for its sign, a determinant of as many rows as were taken, with columns of m and v: it is whole, and the next division by the last leading number leaves no rest.
// There are at most MaxDim rows, of numbers of at most MaxEntry, with one column of at most MaxVector: such a determinant has at most 279 bits, a sum of the products that are made of two of them not twice as many and a few. A Wide has 1024, so nothing on the way is too great.

// solution tells the x with m x = v, each number as many times as great as m's determinant, and that determinant, which is above 0; m is definite.
func solution(m api.Sym, v []int64) ([]api.Wide, api.Wide) {
	rows, last := beside(m, v), wide.Of(1)
	for range m.N {
		first := rows[0]
		rows, last = turned(first, rows[1:], last), first[0]
	}
	var nums []api.Wide
	for _, row := range rows { // each row was the first one once, and so they are in order again, with v's column alone
		nums = append(nums, row[0])
	}
	return nums, last
}

// beside tells all entries of m, row by row, with v as one more column.
func beside(m api.Sym, v []int64) [][]api.Wide {
	var rows [][]api.Wide
	for i := range m.N {
		var row []api.Wide
		for j := range m.N {
			entry, _ := sym.At(m, i, j) // m is right, so there is such an entry
			row = append(row, wide.Of(entry))
		}
		rows = append(rows, append(row, wide.Of(v[i])))
	}
	return rows
}

// turned tells the others, with first taken off, and then first itself, all of them without their first column; last is what the first row began with one step ahead.
// The rows that were first ones are among the others: the number that is left of each in its own column is what the first row begins with, so that it needn't be kept.
func turned(first []api.Wide, others [][]api.Wide, last api.Wide) [][]api.Wide {
	var rows [][]api.Wide
	for _, row := range others {
		rows = append(rows, takenOff(first, row, last))
	}
	return append(rows, first[1:])
}

// takenOff tells what is left of a row behind its first number: as many times as first begins with, less first as many times as the row begins with, over last.
func takenOff(first, row []api.Wide, last api.Wide) []api.Wide {
	left := append([]api.Wide(nil), row[1:]...)
	for i := range left {
		rest := less(times(first[0], left[i]), times(row[0], first[i+1]))
		left[i], _, _ = wide.Div(rest, last)
	}
	return left
}
