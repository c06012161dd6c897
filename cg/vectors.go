package cg

import (
	"leadline/api"
	"leadline/sym"
	"leadline/wide"
)

// square tells all entries of m, which is right, row by row.
func square(m api.Sym) [][]api.Wide {
	rows := make([][]api.Wide, m.N)
	for i := range m.N * m.N {
		entry, _ := sym.At(m, i/m.N, i%m.N) // m is right, so there is such an entry
		rows[i/m.N] = append(rows[i/m.N], wide.Of(entry))
	}
	return rows
}

// times tells the rows times x, row by row.
func times(rows [][]api.Wide, x []api.Wide) []api.Wide {
	var l []api.Wide
	for _, row := range rows {
		l = append(l, dot(row, x))
	}
	return l
}

// dot tells the products of both lists' numbers together.
func dot(a, b []api.Wide) api.Wide {
	var sum api.Wide
	for i := range a {
		product, _ := wide.Mul(a[i], b[i])
		sum, _ = wide.Add(sum, product)
	}
	return sum
}

// minus tells a with the other sign.
func minus(a api.Wide) api.Wide {
	other, _ := wide.Sub(api.Wide{}, a)
	return other
}

// moved tells a, with num over den, which is above 0, of the direction added to it, number by number to the nearest one.
func moved(a, direction []api.Wide, num, den api.Wide) []api.Wide {
	var l []api.Wide
	for i := range a {
		product, _ := wide.Mul(direction[i], num)
		by, _ := wide.Round(product, den)
		sum, _ := wide.Add(a[i], by)
		l = append(l, sum)
	}
	return l
}
