package bound

import (
	"leadline/api"
	"leadline/sym"
	"leadline/wide"
)

// Differences have entries that no right matrix has, and bounds are any int64: so all of them are turned into wide numbers ahead of the first sum, and package elim, which asks for a right matrix, isn't asked.
//
// Rows are taken off one another without fractions: each number that is left is a determinant of a part of the rows at the start, so it is whole, and the next division by the last leading number leaves no rest. What is left is symmetric too, so the upper triangle is enough.
//
// The rows at the start are at most MaxDim, of amounts of at most 2 to the 63 and MaxEntry together on the diagonal, 2 MaxEntry beside it: so as vectors they are shorter than 2 to the 64. What is multiplied are determinants of at most 7 of them, which have 448 bits at most: a Wide has what two of these make.

// triangle tells the upper triangle of m, which is right, row by row.
func triangle(m api.Sym) [][]api.Wide {
	var rows [][]api.Wide
	for i := range m.N {
		var row []api.Wide
		for j := i; j < m.N; j++ {
			v, _ := sym.At(m, i, j) // m is right, so there is such an entry
			row = append(row, wide.Of(v))
		}
		rows = append(rows, row)
	}
	return rows
}

// ones tells the upper triangle of n rows of k times one.
func ones(n int, k int64) [][]api.Wide {
	var rows [][]api.Wide
	for i := range n {
		row := make([]api.Wide, n-i)
		row[0] = wide.Of(k)
		rows = append(rows, row)
	}
	return rows
}

// less tells a less b, entry by entry; both are of one size.
func less(a, b [][]api.Wide) [][]api.Wide {
	var rows [][]api.Wide
	for i := range a {
		var row []api.Wide
		for j := range a[i] {
			rest, _ := wide.Sub(a[i][j], b[i][j])
			row = append(row, rest)
		}
		rows = append(rows, row)
	}
	return rows
}

// definite tells whether all minors of the matrix with that upper triangle are above 0.
func definite(rows [][]api.Wide) bool {
	last := wide.Of(1)
	for len(rows) > 0 {
		minor := rows[0][0]
		if wide.Sign(minor) <= 0 {
			return false
		}
		rows, last = fewer(rows, last), minor
	}
	return true
}

// fewer tells the upper triangle that is left, when the first row is taken off the others; last is what the first row began with one step ahead.
func fewer(rows [][]api.Wide, last api.Wide) [][]api.Wide {
	first, others := rows[0], rows[1:]
	var left [][]api.Wide
	for i, row := range others {
		left = append(left, takenOff(first[0], first[i+1:], row, last))
	}
	return left
}

// takenOff tells what is left of a row: as many times as minor says, less what stands above it as many times as the first number there says (the matrix is symmetric: it is the one ahead of the row, too), over last.
func takenOff(minor api.Wide, above, row []api.Wide, last api.Wide) []api.Wide {
	var left []api.Wide
	for j := range row {
		own, _ := wide.Mul(minor, row[j])
		off, _ := wide.Mul(above[0], above[j])
		rest, _ := wide.Sub(own, off)
		number, _, _ := wide.Div(rest, last)
		left = append(left, number)
	}
	return left
}
