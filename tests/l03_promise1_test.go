package tests

import (
	"fmt"
	"math"
	"slices"
	"testing"

	"loop.example/g01181/impl"
)

// bitsOfAll tells the bits of numbers, with one word for all not-a-numbers.
func bitsOfAll(list ...float32) string {
	s := ""
	for _, x := range list {
		if isNot(x) {
			s += " nan"
			continue
		}
		s += fmt.Sprintf(" %08x", math.Float32bits(x))
	}
	return s
}

// bitsOfWeights tells the bits of complex numbers.
func bitsOfWeights(list []complex64) string {
	s := ""
	for _, x := range list {
		s += bitsOfAll(real(x), imag(x))
	}
	return s
}

// patternsReport calls all functions of chapter 3 with weights, and tells all results.
func patternsReport(places []impl.Place, weights []complex64, d impl.Direction, to, step int64) string {
	pattern, one := impl.PatternAt(places, weights, d)
	power, two := impl.PowerAt(places, weights, d)
	gain, three := impl.GainAt(places, weights, d)
	cut, four := impl.CutOf(places, weights, d.V, d.U, to)
	outer, five := impl.OuterWeights(weights, weights[:min(len(weights), 3)])
	mirror, six := impl.MirrorWeights(weights)
	shifted, seven := impl.ShiftWeights(places, weights, d)
	sky, count, eight := impl.SkyPower(places, weights, step)
	return fmt.Sprint(bitsOfWeights([]complex64{pattern}), bitsOfAll(power, gain, sky), bitsOfAll(cut...),
		bitsOfWeights(outer), bitsOfWeights(mirror), bitsOfWeights(shifted), one, two, three, four, five, six, seven, count, eight)
}

// cutReport calls all functions of chapter 3 with a cut, and tells all results.
func cutReport(cut []float32, at int64) string {
	peak, one := impl.PeakOf(cut)
	lobes, two := impl.LobesOf(cut)
	dips, three := impl.DipsOf(cut)
	from, to, four := impl.WidthOf(cut, at)
	low, high, five := impl.MainLobe(cut, at)
	side, six := impl.SideLevel(cut, at)
	levels, seven := impl.LevelsOf(cut)
	mean, eight := impl.MeanPower(cut)
	return fmt.Sprint(peak, one, lobes, two, dips, three, from, to, four, low, high, five, six, levels, seven, eight,
		bitsOfAll(side, mean))
}

// Promise 1: places and weights stay as they are, with what lies behind their ends.
func TestWeightsAreNotModified(t *testing.T) {
	places, weights := onLine(20), someWeights(20)
	wasPlaces, wasWeights := slices.Clone(places), slices.Clone(weights)
	for count := range len(places) + 1 {
		for _, many := range []int{count, count / 2} {
			d, step := impl.Direction{U: int64(count), V: -3}, int64(count*5)
			report := func(weights []complex64) string {
				return patternsReport(places[:count], weights, d, d.U+20, step)
			}
			before := report(weights[:many])
			isEqual(t, "report again", report(weights[:many]), before)
			isEqual(t, "report of a copy", report(slices.Clone(weights[:many])), before)
		}
	}
	if !slices.Equal(places, wasPlaces) || !slices.Equal(weights, wasWeights) {
		t.Fatal("a list has been modified")
	}
	isEqual(t, "nil and empty", patternsReport(nil, nil, impl.Direction{}, 0, 1),
		patternsReport([]impl.Place{}, []complex64{}, impl.Direction{}, 0, 1))
}

// Promise 1: cuts stay as they are, with what lies behind their ends.
func TestCutsAreNotModified(t *testing.T) {
	long := append(longCut(), oddNumbers()...)
	cuts := append(shortCuts(3), long[:129], long[:130], long[:40], long[129:], long[130:135])
	for _, cut := range cuts {
		was := bitsOfAll(cut[:cap(cut)]...)
		for _, at := range append(farIntegers(), 0, 1, 2, int64(len(cut)-1), int64(len(cut)), -1) {
			before := cutReport(cut, at)
			isEqual(t, "report again", cutReport(cut, at), before)
			isEqual(t, "report of a copy", cutReport(slices.Clone(cut), at), before)
		}
		isEqual(t, "cut afterwards", bitsOfAll(cut[:cap(cut)]...), was)
	}
	isEqual(t, "nil and empty cuts", cutReport(nil, 0), cutReport([]float32{}, 0))
}

// Promise 1: all functions of chapter 3 return for integers far from all limits.
func TestFarIntegersReturnPatterns(t *testing.T) {
	numbers := append(farIntegers(), -65, -64, 0, 1, 64, 65)
	for i, a := range numbers {
		for k, b := range numbers {
			d := impl.Direction{U: a, V: numbers[(i+k)%len(numbers)]}
			to, step := b, numbers[(i*3+k)%len(numbers)]
			report := patternsReport(onLine(3), someWeights(3), d, to, step)
			isEqual(t, "report again", patternsReport(onLine(3), someWeights(3), d, to, step), report)
		}
	}
}

// Promise 1: each result of chapter 3 is new memory.
func TestResultsOfChapter3ShareNoMemory(t *testing.T) {
	places, weights, cut := onLine(3), []complex64{1, 2, 3}, []float32{1, 3, 2, 5}
	d := impl.Direction{U: 5}
	isNewMemory(t, "cut", func() ([]float32, bool) { return impl.CutOf(places, weights, 0, -3, 3) }, 77)
	isNewMemory(t, "lobes", func() ([]int64, bool) { return impl.LobesOf(cut) }, 77)
	isNewMemory(t, "dips", func() ([]int64, bool) { return impl.DipsOf(cut) }, 77)
	isNewMemory(t, "levels", func() ([]int64, bool) { return impl.LevelsOf(cut) }, 77)
	isNewMemory(t, "outer", func() ([]complex64, bool) { return impl.OuterWeights(weights, weights[:1]) }, 77)
	isNewMemory(t, "mirror", func() ([]complex64, bool) { return impl.MirrorWeights(weights) }, 77)
	isNewMemory(t, "shifted", func() ([]complex64, bool) { return impl.ShiftWeights(places, weights, impl.Direction{}) }, 77)
	isNewMemory(t, "shifted away", func() ([]complex64, bool) { return impl.ShiftWeights(places, weights, d) }, 77)
	isResult(t, "weights", weights, true, []complex64{1, 2, 3})
	isResult(t, "numbers of the cut", cut, true, []float32{1, 3, 2, 5})
}
