package tests

import (
	"fmt"
	"slices"
	"testing"

	"loop.example/g01181/impl"
)

// shotsReport calls the functions of chapter 6 with shots, and tells all results.
func shotsReport(weights []complex64, shots [][]complex64, number int64) string {
	covariance, one := impl.CovarianceOf(shots)
	shared, two := impl.CovarianceShared(shots, number)
	beam, three := impl.BeamOfShots(weights, shots)
	report := fmt.Sprint(one, two, three, impl.AreShots(shots), bitsOfWeights(beam))
	return report + bitsOfRows(covariance.Rows) + ";" + bitsOfRows(shared.Rows)
}

// meansReport calls the functions of chapter 6 with a matrix, and tells all results.
func meansReport(m impl.Matrix, size int64) string {
	both, one := impl.BothWays(m)
	smooth, two := impl.SmoothMatrix(m, size)
	return fmt.Sprint(one, two) + bitsOfRows(both.Rows) + ";" + bitsOfRows(smooth.Rows)
}

// sourcesReport calls the functions of chapter 6 with places and sources, and tells
// all results.
func sourcesReport(places []impl.Place, sources []impl.Source, level float32, seed, index, count int64) string {
	shot, one := impl.SnapshotOf(places, sources, level, seed, index)
	shots, two := impl.SnapshotsOf(places, sources, level, seed, index, count)
	next, three := impl.NextSeed(seed)
	symbol, four := impl.SymbolOf(seed, index)
	noise, five := impl.NoiseOf(seed, index, count, level)
	report := fmt.Sprint(one, two, three, four, five, next, impl.ValidSources(sources))
	return report + bitsOfWeights(append(shot, symbol, noise)) + bitsOfRows(shots)
}

// Promise 1: shots, matrices and weights stay as they are, with what lies behind
// their ends.
func TestShotsAreNotModified(t *testing.T) {
	weights := drawn(8, 12)
	wasWeights := bitsOfWeights(weights)
	for count := range 13 {
		for size := range 11 {
			shots, number := cutRows(uint32(count), count, size), int64(count-size)
			was := wholeRows(shots)
			m, other := impl.Matrix{Rows: shots}, impl.Matrix{Rows: copyOf(shots)}
			before := shotsReport(weights[:size], shots, number) + meansReport(m, number)
			isEqual(t, "report again", shotsReport(weights[:size], shots, number)+meansReport(m, number), before)
			isEqual(t, "report of copies", shotsReport(slices.Clone(weights[:size]), other.Rows, number)+meansReport(other, number), before)
			isEqual(t, "all shots", wholeRows(shots), was)
		}
	}
	isEqual(t, "weights", bitsOfWeights(weights), wasWeights)
}

// Promise 1: places and sources stay as they are.
func TestSourcesAreNotModified(t *testing.T) {
	places, sources := onLine(20), someSources(8)
	wasPlaces, wasSources := slices.Clone(places), slices.Clone(sources)
	for count := range 19 {
		for few := range 7 {
			number := int64(count - few)
			before := sourcesReport(places[:count], sources[:few], 0.3, number*77, number*3, number)
			isEqual(t, "report again", sourcesReport(places[:count], sources[:few], 0.3, number*77, number*3, number), before)
			isEqual(t, "report of copies",
				sourcesReport(slices.Clone(places[:count]), slices.Clone(sources[:few]), 0.3, number*77, number*3, number), before)
		}
	}
	if !slices.Equal(places, wasPlaces) || !slices.Equal(sources, wasSources) {
		t.Fatal("a list has been modified")
	}
}

// Promise 1: shots that share memory are numbers like others.
func TestShotsThatShareMemory(t *testing.T) {
	list := drawn(9, 30)
	was := bitsOfWeights(list)
	for size := 1; size <= 8; size++ {
		var shared, apart [][]complex64
		for k := range 13 {
			shared = append(shared, list[k:k+size])
			apart = append(apart, slices.Clone(list[k:k+size]))
		}
		isEqual(t, "report of one list", shotsReport(list[3:3+size], shared, 5), shotsReport(list[3:3+size], apart, 5))
		one, other := impl.Matrix{Rows: shared[:size]}, impl.Matrix{Rows: apart[:size]}
		isEqual(t, "means of one list", meansReport(one, 1), meansReport(other, 1))
	}
	isEqual(t, "the list", bitsOfWeights(list), was)
}

// Promise 1: nil and empty slices are the same.
func TestNilAndEmptyShots(t *testing.T) {
	none := []complex64{}
	isEqual(t, "no shots", shotsReport(nil, nil, 1), shotsReport(none, [][]complex64{}, 1))
	isEqual(t, "no numbers", shotsReport(nil, [][]complex64{nil}, 1), shotsReport(none, [][]complex64{none}, 1))
	isEqual(t, "no matrix", meansReport(impl.Matrix{}, 1), meansReport(matrix([][]complex64{}...), 1))
	isEqual(t, "no sources", sourcesReport(onLine(2), nil, 1, 1, 1, 1), sourcesReport(onLine(2), []impl.Source{}, 1, 1, 1, 1))
	isEqual(t, "no places", sourcesReport(nil, nil, 1, 1, 1, 1), sourcesReport([]impl.Place{}, nil, 1, 1, 1, 1))
}

// Promise 1: all functions of chapter 6 return for integers far from all limits.
func TestFarIntegersReturnSnapshots(t *testing.T) {
	numbers := append(farIntegers(), -1, 0, 1, 8, 9, 16, 64, 65, lastIndex, lastIndex+1, lastSeed, lastSeed+1)
	for i, a := range numbers {
		for k, b := range numbers {
			c := numbers[(i*5+k)%len(numbers)]
			far := []impl.Source{{From: impl.Direction{U: a, V: b}, Gain: 1, Seed: c}}
			for _, sources := range [][]impl.Source{nil, far} {
				isEqual(t, "report", sourcesReport(onLine(2), sources, 1, a, b, c), sourcesReport(onLine(2), sources, 1, a, b, c))
			}
			isEqual(t, "report of shots", shotsReport(ones(2), onesShots(3, 2), a), shotsReport(ones(2), onesShots(3, 2), a))
			isEqual(t, "report of means", meansReport(onesMatrix(3, 3), a), meansReport(onesMatrix(3, 3), a))
		}
	}
}

// Promise 1: all functions of chapter 6 return for odd numbers and for wrong shots
// and matrices.
func TestOddShotsReturn(t *testing.T) {
	odd := oddComplexes()
	for k := 0; k+40 < len(odd); k += 3 {
		for size := 1; size <= 8; size++ {
			var shots [][]complex64
			for i := range 5 {
				shots = append(shots, odd[k+i*size:k+i*size+size])
			}
			number := int64(k%8 + 1)
			isEqual(t, "report again", shotsReport(odd[k:k+size], shots, number), shotsReport(odd[k:k+size], shots, number))
			m := impl.Matrix{Rows: shots[:min(size, 5)]}
			isEqual(t, "means again", meansReport(m, number), meansReport(m, number))
		}
	}
	for _, shots := range wrongShots() {
		for _, count := range []int{0, 1, 2, 16, 17} {
			isEqual(t, "report again", shotsReport(ones(count), shots, 3), shotsReport(ones(count), shots, 3))
		}
		isEqual(t, "means again", meansReport(impl.Matrix{Rows: shots}, 1), meansReport(impl.Matrix{Rows: shots}, 1))
	}
}

// Promise 1: each result of chapter 6 is new memory.
func TestResultsOfChapter6ShareNoMemory(t *testing.T) {
	i := complex64(complex(0, 1))
	shots, weights, sources := [][]complex64{{1, i}, {1, -i}}, []complex64{1, 2}, []impl.Source{{Gain: 2, Seed: 5}}
	m := matrix([]complex64{2, 0}, []complex64{0, 4})
	isNewMatrix(t, "covariance", func() (impl.Matrix, bool) { return impl.CovarianceOf(shots) })
	isNewMatrix(t, "shared", func() (impl.Matrix, bool) { return impl.CovarianceShared(shots, 3) })
	isNewMatrix(t, "both ways", func() (impl.Matrix, bool) { return impl.BothWays(m) })
	isNewMatrix(t, "smooth", func() (impl.Matrix, bool) { return impl.SmoothMatrix(m, 2) })
	isNewMatrix(t, "snapshots", func() (impl.Matrix, bool) {
		shots, ok := impl.SnapshotsOf(onLine(2), nil, 0, 0, 0, 3)
		return impl.Matrix{Rows: shots}, ok
	})
	isNewMemory(t, "snapshot", func() ([]complex64, bool) { return impl.SnapshotOf(onLine(2), sources, 1, 3, 4) }, 77)
	isNewMemory(t, "beam", func() ([]complex64, bool) { return impl.BeamOfShots(weights, shots) }, 77)
	isMatrix(t, "matrix", m, true, [][]complex64{{2, 0}, {0, 4}})
	isShots(t, "shots", shots, true, [][]complex64{{1, i}, {1, -i}})
	isWeights(t, "weights", weights, true, []complex64{1, 2})
	isResult(t, "sources", sources, true, []impl.Source{{Gain: 2, Seed: 5}})
}
