package tests

import (
	"fmt"
	"slices"
	"testing"

	"loop.example/g01181/impl"
)

// scansReport calls the functions of chapter 7 with places, and tells all results.
func scansReport(m impl.Matrix, places []impl.Place, vectors [][]complex64, d impl.Direction, to int64) string {
	scan, one := impl.ScanPower(m, places, d)
	least, two := impl.LeastPower(m, places, d)
	scans, three := impl.ScanCut(m, places, d.V, d.U, to)
	leasts, four := impl.LeastCut(m, places, d.V, d.U, to)
	subspace, five := impl.SubspaceCut(places, vectors, d.V, d.U, to)
	report := fmt.Sprint(one, two, three, four, five, bitsOfAll(scan, least))
	return report + bitsOfAll(scans...) + ";" + bitsOfAll(leasts...) + ";" + bitsOfAll(subspace...)
}

// iterationsReport calls the functions of chapter 7 with a matrix or vectors, and
// tells all results.
func iterationsReport(m impl.Matrix, x []complex64, value float32, count, rounds int64) string {
	greatest, form, one := impl.GreatestVector(m, rounds)
	deflated, two := impl.DeflateMatrix(m, x, value)
	vectors, values, three := impl.VectorsOf(m, count, rounds)
	outside, four := impl.OutsideOf(m.Rows, x)
	report := fmt.Sprint(one, two, three, four, bitsOfAll(form, outside), bitsOfAll(values...))
	return report + bitsOfWeights(greatest) + ";" + bitsOfRows(deflated.Rows) + ";" + bitsOfRows(vectors)
}

// findingsReport calls the functions of chapter 7 for findings, and tells all results.
func findingsReport(list []float32, x, y complex64, ratio float32, number int64) string {
	count, one := impl.CountSources(list, ratio)
	strong, two := impl.StrongLobes(list, number)
	share, three := impl.PhaseShare(x, y, number)
	return fmt.Sprint(count, one, strong, two, share, three, bitsOfAll(impl.SlopeOf(x, y)))
}

// Promise 1: matrices, vectors and places stay as they are, with what lies behind
// their ends.
func TestScannedIsNotModified(t *testing.T) {
	x, places := drawn(3, 12), onLine(12)
	wasX, wasPlaces := bitsOfWeights(x), slices.Clone(places)
	d := impl.Direction{U: -9, V: 30}
	for rows := range 11 {
		for columns := range 11 {
			one, two := cutRows(1, rows, columns), cutRows(2, columns, rows)
			was := wholeRows(one) + wholeRows(two)
			first, copied := impl.Matrix{Rows: one}, impl.Matrix{Rows: copyOf(one)}
			before := scansReport(first, places[:rows], two, d, 3)
			isEqual(t, "scans again", scansReport(first, places[:rows], two, d, 3), before)
			isEqual(t, "scans of copies", scansReport(copied, slices.Clone(places[:rows]), copyOf(two), d, 3), before)
			count := int64(columns+1) / 2
			before = iterationsReport(first, x[:columns], 0.7, count, 7)
			isEqual(t, "iterations again", iterationsReport(first, x[:columns], 0.7, count, 7), before)
			isEqual(t, "iterations of copies", iterationsReport(copied, slices.Clone(x[:columns]), 0.7, count, 7), before)
			isEqual(t, "all rows", wholeRows(one)+wholeRows(two), was)
		}
	}
	isEqual(t, "numbers of x", bitsOfWeights(x), wasX)
	isResult(t, "places", places, true, wasPlaces)
}

// Promise 1: values and cuts stay as they are, with what lies behind their ends.
func TestFindingsAreNotModified(t *testing.T) {
	long := append(longCut(), oddNumbers()...)
	lists := append(shortCuts(4), long[:129], long[:130], long[:8], long[:9], long[129:], long[130:135], long[20:28])
	for k, list := range lists {
		was, number := bitsOfAll(list[:cap(list)]...), int64(k%131)
		before := findingsReport(list, 1, complex(0, 1), 2, number)
		isEqual(t, "findings again", findingsReport(list, 1, complex(0, 1), 2, number), before)
		isEqual(t, "findings of a copy", findingsReport(slices.Clone(list), 1, complex(0, 1), 2, number), before)
		isEqual(t, "list afterwards", bitsOfAll(list[:cap(list)]...), was)
	}
}

// Promise 1: rows and vectors that share memory are numbers like others.
func TestVectorsThatShareMemory(t *testing.T) {
	list := drawn(9, 24)
	was := bitsOfWeights(list)
	for size := 1; size <= 8; size++ {
		var shared, apart [][]complex64
		for k := range size {
			shared = append(shared, list[k:k+size])
			apart = append(apart, slices.Clone(list[k:k+size]))
		}
		one, other := impl.Matrix{Rows: shared}, impl.Matrix{Rows: apart}
		x := list[1 : 1+size]
		isEqual(t, "iterations of one list", iterationsReport(one, x, 2, 1, 9), iterationsReport(other, slices.Clone(x), 2, 1, 9))
		isEqual(t, "scans of one list", scansReport(one, onLine(size), shared, impl.Direction{}, 3), scansReport(other, onLine(size), apart, impl.Direction{}, 3))
	}
	isEqual(t, "the list", bitsOfWeights(list), was)
}

// Promise 1: nil and empty slices are the same.
func TestNilAndEmptyVectors(t *testing.T) {
	none := []complex64{}
	isEqual(t, "no matrix", iterationsReport(impl.Matrix{}, nil, 1, 1, 1), iterationsReport(matrix([][]complex64{}...), none, 1, 1, 1))
	isEqual(t, "no numbers", iterationsReport(matrix(nil), nil, 1, 1, 1), iterationsReport(matrix(none), none, 1, 1, 1))
	d := impl.Direction{}
	isEqual(t, "no vectors", scansReport(matrix(ones(1)), onLine(1), nil, d, 1), scansReport(matrix(ones(1)), onLine(1), [][]complex64{}, d, 1))
	isEqual(t, "no places", scansReport(impl.Matrix{}, nil, nil, d, 0), scansReport(matrix([][]complex64{}...), []impl.Place{}, nil, d, 0))
	isEqual(t, "no values", findingsReport(nil, 1, 1, 1, 1), findingsReport([]float32{}, 1, 1, 1, 1))
}

// Promise 1: all functions of chapter 7 return for integers far from all limits.
func TestFarIntegersReturnScans(t *testing.T) {
	numbers := append(farIntegers(), -65, -64, -1, 0, 1, 8, 9, 60, 61, 64, 65, 129, 130, 4096, 4097)
	m, list := covariance(1, 3), longCut()
	for i, a := range numbers {
		for k, b := range numbers {
			d := impl.Direction{U: a, V: numbers[(i+k)%len(numbers)]}
			for _, places := range [][]impl.Place{onLine(3), {{}, {X: 5}, {X: a, Y: b}}} {
				isEqual(t, "scans again", scansReport(m, places, m.Rows, d, b), scansReport(m, places, m.Rows, d, b))
			}
			isEqual(t, "iterations again", iterationsReport(m, ones(3), 1, a, b), iterationsReport(m, ones(3), 1, a, b))
			isEqual(t, "findings again", findingsReport(list, 1, 1, 1, a), findingsReport(list, 1, 1, 1, a))
		}
	}
}

// Promise 1: all functions of chapter 7 return for odd numbers, and for wrong
// matrices.
func TestOddScansReturn(t *testing.T) {
	odd, numbers := oddComplexes(), oddNumbers()
	for k := 0; k+64 < len(odd); k += 3 {
		for size := 1; size <= 8; size++ {
			m := impl.Matrix{}
			for i := range size {
				m.Rows = append(m.Rows, odd[k+i*size:k+i*size+size])
			}
			value, d := numbers[k%16], impl.Direction{U: int64(k % 40)}
			isEqual(t, "iterations again", iterationsReport(m, odd[k:k+size], value, 1, 5), iterationsReport(m, odd[k:k+size], value, 1, 5))
			isEqual(t, "scans again", scansReport(m, onLine(size), m.Rows, d, 40), scansReport(m, onLine(size), m.Rows, d, 40))
			isEqual(t, "findings again", findingsReport(numbers[:size], odd[k], odd[size], value, 32), findingsReport(numbers[:size], odd[k], odd[size], value, 32))
		}
	}
	for _, m := range notSquare() {
		for _, count := range []int{0, 1, 2, 8, 9, 100} {
			isEqual(t, "iterations again", iterationsReport(m, ones(count), 1, 1, 1), iterationsReport(m, ones(count), 1, 1, 1))
			isEqual(t, "scans again", scansReport(m, onLine(count), m.Rows, impl.Direction{}, 1), scansReport(m, onLine(count), m.Rows, impl.Direction{}, 1))
		}
	}
}

// Promise 1: each result of chapter 7 is new memory.
func TestResultsOfChapter7ShareNoMemory(t *testing.T) {
	m := matrix([]complex64{2, 0}, []complex64{0, 4})
	x, vectors, cut := []complex64{1, 2}, [][]complex64{{0.5, 0}, {0, 0.25}}, []float32{1, 3, 3, 2, 5}
	isNewMemory(t, "scan cut", func() ([]float32, bool) { return impl.ScanCut(m, onLine(2), 0, -2, 2) }, 77)
	isNewMemory(t, "least cut", func() ([]float32, bool) { return impl.LeastCut(m, onLine(2), 0, -2, 2) }, 77)
	isNewMemory(t, "subspace cut", func() ([]float32, bool) { return impl.SubspaceCut(onLine(2), vectors, 0, -2, 2) }, 77)
	isNewMemory(t, "strong lobes", func() ([]int64, bool) { return impl.StrongLobes(cut, 2) }, 77)
	isNewMemory(t, "greatest vector", func() ([]complex64, bool) {
		x, _, ok := impl.GreatestVector(m, 3)
		return x, ok
	}, 77)
	isNewMemory(t, "values", func() ([]float32, bool) {
		_, values, ok := impl.VectorsOf(m, 2, 3)
		return values, ok
	}, 77)
	isNewMatrix(t, "deflated", func() (impl.Matrix, bool) { return impl.DeflateMatrix(m, x, 0) })
	isNewMatrix(t, "vectors", func() (impl.Matrix, bool) {
		vectors, _, ok := impl.VectorsOf(m, 2, 3)
		return impl.Matrix{Rows: vectors}, ok
	})
	isMatrix(t, "matrix", m, true, [][]complex64{{2, 0}, {0, 4}})
	isMatrix(t, "vectors", impl.Matrix{Rows: vectors}, true, [][]complex64{{0.5, 0}, {0, 0.25}})
	isWeights(t, "x", x, true, []complex64{1, 2})
	isPowers(t, "cut", cut, true, []float32{1, 3, 3, 2, 5})
}
