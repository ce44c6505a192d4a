package tests

import (
	"fmt"
	"slices"
	"testing"

	"loop.example/g01181/impl"
)

// runTold returns the adapter behind all steps, and the errors.
func runTold(a impl.Adapter, shots [][]complex64, wanted []complex64) (impl.Adapter, []complex64) {
	var errors []complex64
	for k, shot := range shots {
		var e complex64
		a, e = stepTold(a, shot, wanted[k])
		errors = append(errors, e)
	}
	return a, errors
}

// nearestTold returns the nearest symbol.
func nearestTold(x complex64) complex64 {
	re, im := float32(-0.5), float32(-0.5)
	if real(x) > 0 || real(x) == 0 {
		re = 0.5
	}
	if imag(x) > 0 || imag(x) == 0 {
		im = 0.5
	}
	return complex(re, im)
}

// followTold returns the adapter behind steps to the nearest symbols, and these.
func followTold(a impl.Adapter, shots [][]complex64) (impl.Adapter, []complex64) {
	var symbols []complex64
	for _, shot := range shots {
		symbol := nearestTold(dotTold(a.Weights, shot))
		a, _ = stepTold(a, shot, symbol)
		symbols = append(symbols, symbol)
	}
	return a, symbols
}

// isRun fails the test unless RunAdapter and FollowSymbols return what is told.
func isRun(t *testing.T, a impl.Adapter, shots [][]complex64, wanted []complex64) {
	t.Helper()
	what := fmt.Sprint(" of ", a, shots, wanted)
	want, told := runTold(a, shots, wanted)
	got, errors, ok := impl.RunAdapter(a, shots, wanted)
	isAdapter(t, "run"+what, got, want)
	isWeights(t, "errors"+what, errors, ok, told)
	want, told = followTold(a, shots)
	got, symbols, ok := impl.FollowSymbols(a, shots)
	isAdapter(t, "following"+what, got, want)
	isWeights(t, "symbols"+what, symbols, ok, told)
}

func TestRunAdapter(t *testing.T) {
	i := complex64(complex(0, 1))
	cases := []struct {
		a                    impl.Adapter
		shots                [][]complex64
		wanted, want, errors []complex64
	}{
		{adapter(1, 4, 0), [][]complex64{{1}}, []complex64{1}, []complex64{0.5}, []complex64{1}},
		{adapter(1, 4, 0), [][]complex64{{1}, {1}}, []complex64{1, 1}, []complex64{0.75}, []complex64{1, 0.5}},
		{adapter(1, 4, 0), [][]complex64{{1}, {i}}, []complex64{1, 0}, []complex64{0.25}, []complex64{1, complex(0, -0.5)}},
		// Each step of several keeps the bound.
		{adapter(2, 4, 0), [][]complex64{{1}, {1}, {1}}, []complex64{8, 8, 1}, []complex64{1}, []complex64{8, 6, -1}},
		{adapter(0, 1, 4, 0), [][]complex64{{1, 0}, {1, 0}}, []complex64{0, 0}, []complex64{1, 0}, []complex64{-4, -1}},
	}
	for _, c := range cases {
		got, errors, ok := impl.RunAdapter(c.a, c.shots, c.wanted)
		isAdapter(t, fmt.Sprint("run ", c.a), got, adapter(c.a.Step, c.a.Bound, c.want...))
		isWeights(t, fmt.Sprint("errors of ", c.a), errors, ok, c.errors)
		isRun(t, c.a, c.shots, c.wanted)
	}
}

// Promise 9: runs have the told bits for all numbers of weights and of shots.
func TestRunsToTheBit(t *testing.T) {
	for size := 1; size <= 16; size++ {
		for _, count := range []int{1, 2, 3, 5, 17, 63, 64} {
			for seed := range uint32(4) {
				a := adapter(float32(seed)/2+0.2, float32(size)/4, drawn(seed+3, size)...)
				isRun(t, a, drawnMatrix(seed, count, size).Rows, drawn(seed+9, count))
				isRun(t, a, receivedShots(int64(seed), count, size), drawn(seed+9, count))
			}
		}
	}
}

// Promise 9: this holds for any numbers.
func TestRunsOfOddNumbers(t *testing.T) {
	odd := oddComplexes()
	for k, x := range odd {
		count := 1 + k%6
		weights, shots, wanted := drawn(uint32(k), 3), drawnMatrix(uint32(k), count, 3).Rows, drawn(uint32(k+1), count)
		wanted[k%count] = x
		isRun(t, adapter(1, 2, weights...), shots, wanted)
		shots[k/2%count][k%3] = odd[k*5%len(odd)]
		isRun(t, adapter(1, 2, weights...), shots, wanted)
		weights[k%3] = odd[k*7%len(odd)]
		isRun(t, adapter(1, 2, weights...), shots, wanted)
	}
}

func TestRunAdapterRefuses(t *testing.T) {
	refuse := func(a impl.Adapter, shots [][]complex64, wanted []complex64) {
		t.Helper()
		got, errors, ok := impl.RunAdapter(a, shots, wanted)
		isAdapter(t, fmt.Sprint("run ", a, shots, wanted), got, impl.Adapter{})
		isWeights(t, fmt.Sprint("errors of ", a, shots, wanted), errors, ok, nil)
	}
	for _, shots := range wrongShots() {
		for _, size := range []int{0, 1, 2, 3, 8, 16, 17} {
			refuse(adapter(1, 1, ones(size)...), shots, ones(len(shots)))
		}
	}
	for _, wrong := range wrongAdapters() {
		refuse(wrong, onesShots(2, len(wrong.Weights)), ones(2))
	}
	for count := 1; count <= 64; count++ {
		for _, other := range []int{0, 1, count - 1, count + 1, 64, 65} {
			if other != count {
				refuse(adapter(1, 1, 1), onesShots(count, 1), ones(other))
			}
		}
		refuse(adapter(1, 1, ones(2)...), onesShots(count, 1), ones(count))
		refuse(adapter(1, 1, 1), onesShots(count, 2), ones(count))
	}
	refuse(adapter(1, 1, 1), onesShots(65, 1), ones(64))
}

func TestFollowSymbolsRefuses(t *testing.T) {
	refuse := func(a impl.Adapter, shots [][]complex64) {
		t.Helper()
		got, symbols, ok := impl.FollowSymbols(a, shots)
		isAdapter(t, fmt.Sprint("following ", a, shots), got, impl.Adapter{})
		isWeights(t, fmt.Sprint("symbols of ", a, shots), symbols, ok, nil)
	}
	for _, shots := range wrongShots() {
		for _, size := range []int{0, 1, 2, 3, 8, 16, 17} {
			refuse(adapter(1, 1, ones(size)...), shots)
		}
	}
	for _, wrong := range wrongAdapters() {
		refuse(wrong, onesShots(2, len(wrong.Weights)))
	}
	for size := range 20 {
		for other := range 20 {
			if size != other {
				refuse(adapter(1, 1, ones(size)...), onesShots(3, other))
			}
		}
	}
}

func TestNearestSymbol(t *testing.T) {
	cases := map[complex64]complex64{
		0: complex(0.5, 0.5), 1: complex(0.5, 0.5), -3: complex(-0.5, 0.5), complex(0, -1): complex(0.5, -0.5),
		complex(-1e-45, -0.25): complex(-0.5, -0.5), complex(7, 1e-45): complex(0.5, 0.5),
	}
	for x, want := range cases {
		isComplex(t, fmt.Sprint("nearest to ", x), impl.NearestSymbol(x), want)
	}
	// -0 is at least 0, and a not-a-number is not.
	isComplex(t, "nearest to -0", impl.NearestSymbol(complex(minusZero(), minusZero())), complex(0.5, 0.5))
	isComplex(t, "nearest to a not-a-number", impl.NearestSymbol(complex(nan32(), 1)), complex(-0.5, 0.5))
	isComplex(t, "nearest to not-a-numbers", impl.NearestSymbol(complex(1, bits32(0xffc00001))), complex(0.5, -0.5))
	isComplex(t, "nearest to infinities", impl.NearestSymbol(complex(-inf32(), inf32())), complex(-0.5, 0.5))
	for _, x := range oddComplexes() {
		isComplex(t, fmt.Sprint("nearest to ", x), impl.NearestSymbol(x), nearestTold(x))
	}
}

// Each symbol is that of the output before its own step.
func TestFollowSymbols(t *testing.T) {
	i := complex64(complex(0, 1))
	a, shots := adapter(4, 99, 1), [][]complex64{{complex(-1, 0.25)}, {complex(-1, 0.25)}, {i}}
	isRun(t, a, shots, ones(3))
	for size := 1; size <= 16; size++ {
		a, shots := adapter(0.7, 3, drawn(8, size)...), receivedShots(int64(size), 64, size)
		last, symbols, ok := impl.FollowSymbols(a, shots)
		isEqual(t, "following taken", ok && len(symbols) == 64, true)
		got, _, ok := impl.RunAdapter(a, shots, symbols)
		isEqual(t, "run taken", ok, true)
		isAdapter(t, "run to the symbols", got, last)
		for k, shot := range shots {
			before := a
			if k > 0 {
				before, _, _ = impl.RunAdapter(a, shots[:k], symbols[:k])
			}
			output, _ := impl.OutputOf(before, shot)
			isComplex(t, fmt.Sprint("symbol ", k), symbols[k], impl.NearestSymbol(output))
		}
	}
}

// Promise 9: outputs that are symbols are a perfect reference.
func TestSymbolsChangeNothing(t *testing.T) {
	for seed := range int64(20) {
		var shots [][]complex64
		var sent []complex64
		for k := range int64(64) {
			symbol, _ := impl.SymbolOf(seed*1000, k+seed)
			shots, sent = append(shots, []complex64{symbol, 0}), append(sent, symbol)
		}
		a := adapter(float32(seed)-7, 10, 1, complex(2, -1))
		got, symbols, ok := impl.FollowSymbols(a, shots)
		isAdapter(t, "following symbols", got, a)
		isWeights(t, "symbols", symbols, ok, sent)
		wrong, ok := impl.CountWrong(symbols, seed*1000, seed)
		isEqual(t, "none is wrong", ok && wrong == 0, true)
	}
}

// Runs learn what a source sends, and then follow it alone without wrong symbols.
func TestRunsLearn(t *testing.T) {
	line, _ := impl.LinePlaces(8, 32)
	sources := []impl.Source{{From: impl.Direction{U: 20}, Gain: 1, Seed: 77}, {From: impl.Direction{U: -30}, Gain: 0.8, Seed: 5}}
	a := adapter(1, 10, make([]complex64, 8)...)
	for round := range int64(6) {
		shots, _ := impl.SnapshotsOf(line, sources, 0.05, 3, 64*round, 64)
		var sent []complex64
		for k := range int64(64) {
			symbol, _ := impl.SymbolOf(77, 64*round+k)
			sent = append(sent, symbol)
		}
		next, errors, ok := impl.RunAdapter(a, shots, sent)
		isEqual(t, "run taken", ok, true)
		if round > 0 {
			isEqual(t, fmt.Sprint("small errors ", powersTold(errors)), powersTold(errors) < 1, true)
			_, symbols, _ := impl.FollowSymbols(a, shots)
			wrong, ok := impl.CountWrong(symbols, 77, 64*round)
			isEqual(t, "none is wrong", ok && wrong == 0, true)
			wrong, ok = impl.CountWrong(symbols, 5, 64*round)
			isEqual(t, "those of the other source are wrong", ok && wrong > 30, true)
		}
		a = next
	}
}

// isWrongCount fails the test unless CountWrong returns want.
func isWrongCount(t *testing.T, symbols []complex64, seed, first, want int64) {
	t.Helper()
	got, ok := impl.CountWrong(symbols, seed, first)
	isEqual(t, fmt.Sprint("counted ", len(symbols), seed, first), ok, want >= 0)
	isEqual(t, fmt.Sprint("wrong ", len(symbols), seed, first), got, max(want, 0))
}

// different returns how many numbers of two lists differ.
func different(a, b []complex64) int {
	count := 0
	for k, x := range a {
		if x != b[k] {
			count++
		}
	}
	return count
}

// sentSymbols returns the symbols of a seed from an index on.
func sentSymbols(seed, first int64, count int) []complex64 {
	symbols := make([]complex64, count)
	for k := range symbols {
		symbols[k] = symbolTold(seed, first+int64(k))
	}
	return symbols
}

func TestCountWrong(t *testing.T) {
	odd := oddComplexes()
	for _, seed := range someSeeds() {
		for _, first := range []int64{0, 1, 77, lastIndex - 63} {
			for _, count := range []int{0, 1, 2, 63, 64} {
				symbols := sentSymbols(seed, first, count)
				isWrongCount(t, symbols, seed, first, 0)
				for k, x := range symbols {
					// One other number is wrong, wherever it is, and then one more of them.
					other := odd[(k*7+count)%len(odd)]
					changed := slices.Clone(symbols)
					changed[count-1-k] = other
					isWrongCount(t, changed, seed, first, int64(different(sentSymbols(seed, first, count), changed)))
					symbols[k] = complex(real(x), -imag(x))
					isWrongCount(t, symbols, seed, first, int64(k+1))
					symbols[k] = complex(-real(x), imag(x))
					isWrongCount(t, symbols, seed, first, int64(k+1))
				}
			}
		}
	}
	isWrongCount(t, []complex64{0, 0}, 5, 0, 2)
	isWrongCount(t, slices.Repeat([]complex64{complex(nan32(), nan32())}, 64), 5, 0, 64)
}

// Symbols and indices reach their limits exactly.
func TestCountWrongHasLimits(t *testing.T) {
	for _, first := range []int64{0, 1, lastIndex - 64, lastIndex - 63, lastIndex - 62, lastIndex - 1, lastIndex} {
		for _, count := range []int{0, 1, 2, 3, 62, 63, 64, 65, 66, 200} {
			want := int64(count)
			if count > 64 || count > 0 && first+int64(count)-1 > lastIndex {
				want = -1
			}
			isWrongCount(t, make([]complex64, count), 9, first, want)
		}
	}
	for _, count := range []int{0, 1, 64} {
		for _, seed := range wrongSeeds() {
			isWrongCount(t, make([]complex64, count), seed, 0, -1)
		}
		for _, first := range wrongIndices() {
			isWrongCount(t, make([]complex64, count), 0, first, -1)
		}
		isWrongCount(t, make([]complex64, count), 0, 0, int64(count))
		isWrongCount(t, make([]complex64, count), lastSeed, 0, int64(count))
	}
}
