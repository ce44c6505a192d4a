package tests

import (
	"fmt"
	"slices"
	"testing"

	"loop.example/g01181/impl"
)

// bitsOfRows tells the bits of rows.
func bitsOfRows(rows [][]complex64) string {
	s := ""
	for _, row := range rows {
		s += bitsOfWeights(row) + " /"
	}
	return s
}

// matricesReport calls the functions of chapter 5 with matrices, and tells all
// results.
func matricesReport(a, b impl.Matrix, by float32) string {
	adjoint, one := impl.AdjointOf(a)
	sum, two := impl.AddMatrices(a, b)
	product, three := impl.MulMatrices(a, b)
	loaded, four := impl.LoadMatrix(a, by)
	inverse, five := impl.InverseMatrix(a)
	determinant, six := impl.DeterminantOf(a)
	report := fmt.Sprint(one, two, three, four, five, six, impl.ValidMatrix(a), impl.IsHermitian(a), impl.SameMatrix(a, b),
		bitsOfWeights([]complex64{determinant}))
	for _, m := range []impl.Matrix{adjoint, sum, product, loaded, inverse} {
		report += bitsOfRows(m.Rows) + ";"
	}
	return report
}

// equationsReport calls the functions of chapter 5 with lists, and tells all
// results.
func equationsReport(m impl.Matrix, x, b []complex64, bounds [][]complex64) string {
	product, one := impl.MulVector(m, x)
	form, two := impl.FormOf(m, x)
	solution, three := impl.SolveEquations(m, b)
	rests, greatest, four := impl.RestOf(m, x, b)
	refined, five := impl.RefineSolution(m, x, b)
	least, six := impl.LeastSquares(m, b)
	weights, seven := impl.BoundWeights(m, bounds, b[:min(len(b), len(bounds))])
	report := fmt.Sprint(one, two, three, four, five, six, seven, bitsOfAll(greatest))
	for _, list := range [][]complex64{product, {form}, solution, rests, refined, least, weights} {
		report += bitsOfWeights(list) + ";"
	}
	return report
}

// cutRows returns rows of some length, with numbers behind each of them and rows
// behind the last one.
func cutRows(seed uint32, rows, columns int) [][]complex64 {
	m := drawnMatrix(seed, 12, 12)
	for i := range m.Rows {
		m.Rows[i] = m.Rows[i][:columns]
	}
	return m.Rows[:rows]
}

// wholeRows tells the bits of rows and of all that lies behind their ends.
func wholeRows(rows [][]complex64) string {
	var all [][]complex64
	for _, row := range rows[:cap(rows)] {
		all = append(all, row[:cap(row)])
	}
	return bitsOfRows(all)
}

// copyOf returns a copy of rows without anything behind their ends.
func copyOf(rows [][]complex64) [][]complex64 {
	var copied [][]complex64
	for _, row := range rows {
		copied = append(copied, slices.Clip(slices.Clone(row)))
	}
	return slices.Clip(copied)
}

// Promise 1: matrices and lists stay as they are, with what lies behind their ends.
func TestMatricesAreNotModified(t *testing.T) {
	x, b := drawn(3, 12), drawn(4, 12)
	wasX, wasB := bitsOfWeights(x), bitsOfWeights(b)
	for rows := range 11 {
		for columns := range 11 {
			one, two, bounds := cutRows(1, rows, columns), cutRows(2, columns, rows), cutRows(5, min(rows, 4), columns)
			was := wholeRows(one) + wholeRows(two) + wholeRows(bounds)
			first, second := impl.Matrix{Rows: one}, impl.Matrix{Rows: two}
			before := matricesReport(first, second, 3) + matricesReport(first, first, 2)
			isEqual(t, "report again", matricesReport(first, second, 3)+matricesReport(first, first, 2), before)
			other, behind := impl.Matrix{Rows: copyOf(one)}, impl.Matrix{Rows: copyOf(two)}
			isEqual(t, "report of copies", matricesReport(other, behind, 3)+matricesReport(other, other, 2), before)
			before = equationsReport(first, x[:columns], b[:rows], bounds)
			isEqual(t, "report again", equationsReport(first, x[:columns], b[:rows], bounds), before)
			isEqual(t, "report of copies",
				equationsReport(other, slices.Clone(x[:columns]), slices.Clone(b[:rows]), copyOf(bounds)), before)
			isEqual(t, "all rows", wholeRows(one)+wholeRows(two)+wholeRows(bounds), was)
		}
	}
	isEqual(t, "numbers of x", bitsOfWeights(x), wasX)
	isEqual(t, "numbers of b", bitsOfWeights(b), wasB)
}

// Promise 1: rows that share memory are numbers like others.
func TestRowsThatShareMemory(t *testing.T) {
	row := drawn(9, 8)
	shared, apart := impl.Matrix{}, impl.Matrix{}
	for range 4 {
		shared.Rows, apart.Rows = append(shared.Rows, row[:4]), append(apart.Rows, slices.Clone(row[:4]))
	}
	was := bitsOfWeights(row)
	isEqual(t, "report of one row", matricesReport(shared, shared, 2), matricesReport(apart, apart, 2))
	isEqual(t, "equations of one row", equationsReport(shared, row[:4], row[:4], shared.Rows), equationsReport(apart, row[:4], row[:4], apart.Rows))
	// Each row begins in the one before it, so that its end lies behind that one.
	shared, apart = impl.Matrix{}, impl.Matrix{}
	for i := range 4 {
		shared.Rows, apart.Rows = append(shared.Rows, row[i:i+4]), append(apart.Rows, slices.Clone(row[i:i+4]))
	}
	isEqual(t, "report of one list", matricesReport(shared, shared, 2), matricesReport(apart, apart, 2))
	isEqual(t, "equations of one list", equationsReport(shared, row[2:6], row[4:8], shared.Rows), equationsReport(apart, row[2:6], row[4:8], apart.Rows))
	isEqual(t, "the list", bitsOfWeights(row), was)
}

// Promise 1: nil and empty slices are the same.
func TestNilAndEmptyMatrices(t *testing.T) {
	none := []complex64{}
	isEqual(t, "no rows", matricesReport(impl.Matrix{}, impl.Matrix{}, 1), matricesReport(matrix(), matrix([][]complex64{}...), 1))
	isEqual(t, "no columns", matricesReport(matrix(nil), matrix(nil), 1), matricesReport(matrix(none), matrix(none), 1))
	one := matrix(ones(1))
	isEqual(t, "no numbers", equationsReport(one, nil, nil, nil), equationsReport(one, none, none, [][]complex64{}))
	isEqual(t, "no bound", equationsReport(one, ones(1), ones(1), [][]complex64{nil}), equationsReport(one, ones(1), ones(1), [][]complex64{none}))
}

// Promise 1: all functions of chapter 5 return for odd numbers and for wrong
// matrices and lists.
func TestOddMatricesReturn(t *testing.T) {
	odd := oddComplexes()
	for k := 0; k+20 < len(odd); k += 3 {
		for size := 1; size <= 4; size++ {
			a, b := impl.Matrix{}, drawnMatrix(uint32(k), size, size)
			for i := range size {
				a.Rows = append(a.Rows, odd[k+i*size:k+i*size+size])
			}
			by := real(odd[k])
			isEqual(t, "report again", matricesReport(a, b, by), matricesReport(a, b, by))
			isEqual(t, "equations again", equationsReport(a, odd[:size], odd[k:k+size], b.Rows), equationsReport(a, odd[:size], odd[k:k+size], b.Rows))
			isEqual(t, "equations of others again", equationsReport(b, odd[k:k+size], odd[:size], a.Rows), equationsReport(b, odd[k:k+size], odd[:size], a.Rows))
		}
	}
	for _, a := range wrongMatrices() {
		for _, b := range append(wrongMatrices(), onesMatrix(1, 1), onesMatrix(8, 8)) {
			isEqual(t, "report again", matricesReport(a, b, 1), matricesReport(a, b, 1))
			isEqual(t, "report again", matricesReport(b, a, 1), matricesReport(b, a, 1))
			for _, count := range []int{0, 1, 8, 9} {
				isEqual(t, "equations again", equationsReport(b, ones(count), ones(count), a.Rows), equationsReport(b, ones(count), ones(count), a.Rows))
			}
		}
	}
}

// isNewMatrix fails the test unless each row of a matrix stays the same after the
// others, or the rows of the same call, have been overwritten up to their ends.
func isNewMatrix(t *testing.T, what string, call func() (impl.Matrix, bool)) {
	t.Helper()
	first, _ := call()
	was := copyOf(first.Rows)
	for i, row := range first.Rows {
		row = row[:cap(row)]
		for k := range row {
			row[k] = 77
		}
		for k := i + 1; k < len(was); k++ {
			isWeights(t, what+", another row", first.Rows[k], true, was[k])
		}
	}
	again, ok := call()
	isMatrix(t, what+" again", again, ok, was)
}

// Promise 1: each result of chapter 5 is new memory.
func TestResultsOfChapter5ShareNoMemory(t *testing.T) {
	m := matrix([]complex64{2, 0}, []complex64{0, 4})
	x, b, bounds := []complex64{1, 2}, []complex64{4, 8}, [][]complex64{{1, 0}, {0, 1}}
	isNewMatrix(t, "unit", func() (impl.Matrix, bool) { return impl.UnitMatrix(3) })
	isNewMatrix(t, "adjoint", func() (impl.Matrix, bool) { return impl.AdjointOf(m) })
	isNewMatrix(t, "sum", func() (impl.Matrix, bool) { return impl.AddMatrices(m, m) })
	isNewMatrix(t, "product", func() (impl.Matrix, bool) { return impl.MulMatrices(m, m) })
	isNewMatrix(t, "loaded", func() (impl.Matrix, bool) { return impl.LoadMatrix(m, 0) })
	isNewMatrix(t, "inverse", func() (impl.Matrix, bool) { return impl.InverseMatrix(m) })
	isNewMemory(t, "vector", func() ([]complex64, bool) { return impl.MulVector(m, x) }, 77)
	isNewMemory(t, "solution", func() ([]complex64, bool) { return impl.SolveEquations(m, b) }, 77)
	isNewMemory(t, "refined", func() ([]complex64, bool) { return impl.RefineSolution(m, x, b) }, 77)
	isNewMemory(t, "least squares", func() ([]complex64, bool) { return impl.LeastSquares(m, b) }, 77)
	isNewMemory(t, "weights", func() ([]complex64, bool) { return impl.BoundWeights(m, bounds, b) }, 77)
	isNewMemory(t, "rests", func() ([]complex64, bool) {
		rests, _, ok := impl.RestOf(m, []complex64{0, 0}, b)
		return rests, ok
	}, 77)
	isMatrix(t, "matrix", m, true, [][]complex64{{2, 0}, {0, 4}})
	isWeights(t, "x", x, true, []complex64{1, 2})
	isWeights(t, "b", b, true, []complex64{4, 8})
	isMatrix(t, "bounds", impl.Matrix{Rows: bounds}, true, [][]complex64{{1, 0}, {0, 1}})
}
