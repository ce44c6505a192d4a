package tests

import (
	"fmt"
	"slices"
	"testing"

	"loop.example/g01181/impl"
)

// bitsOfAdapter tells the bits of an adapter.
func bitsOfAdapter(a impl.Adapter) string {
	return bitsOfWeights(a.Weights) + " :" + bitsOfAll(a.Step, a.Bound)
}

// stepsReport calls the functions of chapter 8 with an adapter, and tells all results.
func stepsReport(a impl.Adapter, shots [][]complex64, wanted []complex64) string {
	shot, target := []complex64(nil), complex64(1)
	if len(shots) > 0 {
		shot = shots[0]
	}
	if len(wanted) > 0 {
		target = wanted[0]
	}
	output, one := impl.OutputOf(a, shot)
	step, e, two := impl.StepAdapter(a, shot, target)
	run, errors, three := impl.RunAdapter(a, shots, wanted)
	follow, symbols, four := impl.FollowSymbols(a, shots)
	report := fmt.Sprint(one, two, three, four, impl.ValidAdapter(a), impl.SameAdapter(a, run))
	for _, x := range []impl.Adapter{step, run, follow} {
		report += bitsOfAdapter(x) + ";"
	}
	return report + bitsOfWeights(append(errors, output, e, impl.NearestSymbol(target))) + ";" + bitsOfWeights(symbols)
}

// failuresReport calls the functions of chapter 8 with places or shots, and tells all
// results.
func failuresReport(weights []complex64, failed []int64, places []impl.Place, d impl.Direction, shots [][]complex64, share float32) string {
	mended, one := impl.MendWeights(weights, failed, places, d)
	found, two := impl.FailedElements(shots, share)
	gains, three := impl.GainsOf(shots, places, d)
	return fmt.Sprint(one, two, three, found) + bitsOfWeights(mended) + ";" + bitsOfWeights(gains)
}

// tapsReport calls the other functions of chapter 8, and tells all results.
func tapsReport(taps, shots [][]complex64, x, y []complex64, seed, first int64) string {
	delayed, one := impl.DelayTaps(taps, shots)
	calibrated, two := impl.CalibrateShot(x, y)
	wrong, three := impl.CountWrong(x, seed, first)
	return fmt.Sprint(one, two, three, wrong) + bitsOfWeights(delayed) + ";" + bitsOfWeights(calibrated)
}

// Promise 1: adapters, shots and wanted numbers stay as they are, with what lies behind
// their ends.
func TestAdaptersAreNotModified(t *testing.T) {
	weights, wanted := drawn(3, 20), drawn(4, 20)
	wasWeights, wasWanted := bitsOfWeights(weights), bitsOfWeights(wanted)
	for rows := range 11 {
		for columns := range 11 {
			shots := cutRows(1, rows, columns)
			was := wholeRows(shots)
			// The bounds make steps with and without less weights.
			for _, bound := range []float32{0.1, 99} {
				a, copied := adapter(0.8, bound, weights[:columns]...), adapter(0.8, bound, slices.Clone(weights[:columns])...)
				before := stepsReport(a, shots, wanted[:rows])
				isEqual(t, "steps again", stepsReport(a, shots, wanted[:rows]), before)
				isEqual(t, "steps of copies", stepsReport(copied, copyOf(shots), slices.Clone(wanted[:rows])), before)
			}
			isEqual(t, "all rows", wholeRows(shots), was)
		}
	}
	isEqual(t, "weights", bitsOfWeights(weights), wasWeights)
	isEqual(t, "wanted numbers", bitsOfWeights(wanted), wasWanted)
}

// Promise 1: weights, sets, places, taps and gains stay as they are, with what lies
// behind their ends.
func TestMendedIsNotModified(t *testing.T) {
	x, y, places, failed := drawn(3, 12), drawn(4, 12), onLine(12), []int64{0, 2, 3, 9, 10, 11}
	wasX, wasY, wasPlaces, wasFailed := bitsOfWeights(x), bitsOfWeights(y), slices.Clone(places), slices.Clone(failed)
	d := impl.Direction{U: -9, V: 30}
	for rows := range 11 {
		for columns := range 11 {
			shots, taps := cutRows(1, rows, columns), cutRows(2, columns, columns)
			was, few := wholeRows(shots)+wholeRows(taps), rows%4
			before := failuresReport(x[:columns], failed[:few], places[:columns], d, shots, 0.9)
			isEqual(t, "failures again", failuresReport(x[:columns], failed[:few], places[:columns], d, shots, 0.9), before)
			isEqual(t, "failures of copies",
				failuresReport(slices.Clone(x[:columns]), slices.Clone(failed[:few]), slices.Clone(places[:columns]), d, copyOf(shots), 0.9), before)
			before = tapsReport(taps, shots, x[:columns], y[:columns], 5, 6)
			isEqual(t, "taps again", tapsReport(taps, shots, x[:columns], y[:columns], 5, 6), before)
			isEqual(t, "taps of copies", tapsReport(copyOf(taps), copyOf(shots), slices.Clone(x[:columns]), slices.Clone(y[:columns]), 5, 6), before)
			isEqual(t, "all rows", wholeRows(shots)+wholeRows(taps), was)
		}
	}
	isEqual(t, "numbers of x", bitsOfWeights(x), wasX)
	isEqual(t, "numbers of y", bitsOfWeights(y), wasY)
	isResult(t, "places", places, true, wasPlaces)
	isResult(t, "failed", failed, true, wasFailed)
}

// Promise 1: weights, shots, taps and wanted numbers that share memory are numbers like
// others.
func TestAdaptersThatShareMemory(t *testing.T) {
	list := drawn(9, 32)
	was := bitsOfWeights(list)
	for size := 1; size <= 16; size++ {
		var shared, apart [][]complex64
		for k := range 7 {
			shared = append(shared, list[k:k+size])
			apart = append(apart, slices.Clone(list[k:k+size]))
		}
		one, other := adapter(0.7, 2, list[:size]...), adapter(0.7, 2, slices.Clone(list[:size])...)
		isEqual(t, "steps of one list", stepsReport(one, shared, list[:7]), stepsReport(other, apart, slices.Clone(list[:7])))
		isEqual(t, "taps of one list", tapsReport(shared, shared, list[:size], list[:size], 1, 2), tapsReport(apart, apart, list[:size], slices.Clone(list[:size]), 1, 2))
		d := impl.Direction{U: 7}
		isEqual(t, "failures of one list", failuresReport(list[:size], nil, onLine(size), d, shared, 0.9), failuresReport(apart[0], nil, onLine(size), d, apart, 0.9))
	}
	isEqual(t, "the list", bitsOfWeights(list), was)
}

// Promise 1: nil and empty slices are the same.
func TestNilAndEmptyAdapters(t *testing.T) {
	none, places, d := []complex64{}, onLine(2), impl.Direction{}
	isEqual(t, "no weights", stepsReport(impl.Adapter{Bound: 1}, nil, nil), stepsReport(impl.Adapter{Weights: none, Bound: 1}, [][]complex64{}, none))
	isEqual(t, "no shots", stepsReport(adapter(1, 1, 1), nil, nil), stepsReport(adapter(1, 1, 1), [][]complex64{}, none))
	isEqual(t, "no numbers", stepsReport(adapter(1, 1), [][]complex64{nil}, ones(1)), stepsReport(adapter(1, 1), [][]complex64{none}, ones(1)))
	isEqual(t, "no failed", failuresReport(ones(2), nil, places, d, nil, 1), failuresReport(ones(2), []int64{}, places, d, [][]complex64{}, 1))
	isEqual(t, "no places", failuresReport(nil, nil, nil, d, nil, 1), failuresReport(none, []int64{}, []impl.Place{}, d, [][]complex64{}, 1))
	isEqual(t, "no taps", tapsReport(nil, onesShots(1, 1), nil, nil, 0, 0), tapsReport([][]complex64{}, onesShots(1, 1), none, none, 0, 0))
	isEqual(t, "empty taps", tapsReport([][]complex64{nil}, nil, nil, nil, 0, 0), tapsReport([][]complex64{none}, [][]complex64{}, none, none, 0, 0))
}

// Promise 1: all functions of chapter 8 return for integers far from all limits.
func TestFarIntegersReturnAdapters(t *testing.T) {
	numbers := append(farIntegers(), -65, -1, 0, 1, 2, 3, 64, 65, lastIndex, lastIndex+1, lastSeed, lastSeed+1)
	shots := onesShots(2, 3)
	for i, a := range numbers {
		for k, b := range numbers {
			isEqual(t, "taps again", tapsReport(shots, shots, ones(3), ones(3), a, b), tapsReport(shots, shots, ones(3), ones(3), a, b))
			d := impl.Direction{U: numbers[(i+k)%len(numbers)], V: a}
			for _, places := range [][]impl.Place{onLine(3), {{}, {X: 5}, {X: a, Y: b}}} {
				for _, failed := range [][]int64{{a}, {a, b}, {0, a, b}} {
					isEqual(t, "failures again", failuresReport(ones(3), failed, places, d, shots, 1), failuresReport(ones(3), failed, places, d, shots, 1))
				}
			}
		}
	}
}

// Promise 1: all functions of chapter 8 return for odd numbers, and for wrong adapters
// and shots.
func TestOddAdaptersReturn(t *testing.T) {
	odd, numbers := oddComplexes(), oddNumbers()
	for k := 0; k+70 < len(odd); k += 5 {
		for size := 1; size <= 16; size++ {
			var shots [][]complex64
			for i := range 3 {
				shots = append(shots, odd[k+i*size:k+i*size+size])
			}
			x, y, number, failed := odd[k:k+size], odd[k+9:k+9+size], numbers[k%16], []int64{int64(k % size)}
			a := impl.Adapter{Weights: x, Step: numbers[k/2%16], Bound: number}
			isEqual(t, "steps again", stepsReport(a, shots, odd[k+5:k+8]), stepsReport(a, shots, odd[k+5:k+8]))
			isEqual(t, "taps again", tapsReport(shots, shots, x, y, 5, 6), tapsReport(shots, shots, x, y, 5, 6))
			d := impl.Direction{U: int64(k % 40)}
			isEqual(t, "failures again", failuresReport(x, failed, onLine(size), d, shots, number), failuresReport(x, failed, onLine(size), d, shots, number))
		}
	}
	for _, shots := range wrongShots() {
		for _, count := range []int{0, 1, 2, 16, 17, 65} {
			a, d := adapter(1, 1, ones(count)...), impl.Direction{}
			isEqual(t, "steps again", stepsReport(a, shots, ones(count)), stepsReport(a, shots, ones(count)))
			isEqual(t, "taps again", tapsReport(shots, shots, ones(count), ones(count), 1, 1), tapsReport(shots, shots, ones(count), ones(count), 1, 1))
			isEqual(t, "failures again", failuresReport(ones(count), nil, onLine(count), d, shots, 1), failuresReport(ones(count), nil, onLine(count), d, shots, 1))
		}
	}
}

// Promise 1: each result of chapter 8 is new memory.
func TestResultsOfChapter8ShareNoMemory(t *testing.T) {
	a, small := adapter(0, 99, 1, 2), adapter(0, 1, 3, 4)
	shots, wanted, taps := [][]complex64{{1, 2}, {3, 4}}, []complex64{5, 6}, [][]complex64{{1, 0}, {0, 1}}
	line, failed := onLine(2), []int64{}
	for _, a := range []impl.Adapter{a, small} {
		isNewMemory(t, "step", func() ([]complex64, bool) {
			last, _, ok := impl.StepAdapter(a, shots[0], 1)
			return last.Weights, ok
		}, 77)
		isNewMatrix(t, "run", func() (impl.Matrix, bool) {
			last, errors, ok := impl.RunAdapter(a, shots, wanted)
			return matrix(last.Weights, errors), ok
		})
		isNewMatrix(t, "following", func() (impl.Matrix, bool) {
			last, symbols, ok := impl.FollowSymbols(a, shots)
			return matrix(last.Weights, symbols), ok
		})
	}
	isNewMemory(t, "mended", func() ([]complex64, bool) { return impl.MendWeights(wanted, failed, line, impl.Direction{}) }, 77)
	isNewMemory(t, "failed", func() ([]int64, bool) { return impl.FailedElements(shots, 3) }, 77)
	isNewMemory(t, "gains", func() ([]complex64, bool) { return impl.GainsOf(shots, line, impl.Direction{}) }, 77)
	isNewMemory(t, "calibrated", func() ([]complex64, bool) { return impl.CalibrateShot(wanted, ones(2)) }, 77)
	isNewMemory(t, "delayed", func() ([]complex64, bool) { return impl.DelayTaps(taps, shots) }, 77)
	isAdapter(t, "adapter", a, adapter(0, 99, 1, 2))
	isAdapter(t, "adapter above its bound", small, adapter(0, 1, 3, 4))
	isShots(t, "shots", shots, true, [][]complex64{{1, 2}, {3, 4}})
	isShots(t, "taps", taps, true, [][]complex64{{1, 0}, {0, 1}})
	isWeights(t, "wanted", wanted, true, []complex64{5, 6})
}
