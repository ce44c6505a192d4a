package tests

import (
	"fmt"
	"slices"
	"testing"

	"loop.example/g01181/impl"
)

// weightsReport calls the functions of chapter 4 with weights, and tells all results.
func weightsReport(a, b []complex64, by float32, failed []int64, bits int64) string {
	scaled, one := impl.ScaleWeights(a, by)
	norm, two := impl.NormWeights(a)
	opposite, three := impl.DifferenceWeights(a)
	left, four := impl.WithoutElements(a, failed)
	rounded, five := impl.RoundPhases(a, bits)
	polynomial, six := impl.PolynomialOf(a)
	product, seven := impl.MulPolynomials(a, b)
	single, eight := impl.RoundPhase(complex(by, 1), bits)
	value, nine := impl.ValueAt(a, complex(by, -1))
	report := fmt.Sprint(one, two, three, four, five, six, seven, eight, nine)
	for _, list := range [][]complex64{scaled, norm, opposite, left, rounded, polynomial, product, {single, value}} {
		report += bitsOfWeights(list) + ";"
	}
	return report
}

// steeredReport calls the functions of chapter 4 with places, and tells all results.
func steeredReport(places []impl.Place, d impl.Direction, taper []float32) string {
	steered, ok := impl.SteerWeights(places, d, taper)
	return fmt.Sprint(bitsOfWeights(steered), ok)
}

// kindsReport calls the functions of chapter 4 with integers, and tells all results.
func kindsReport(a, b int64, nulls []int64) string {
	taper, one := impl.TaperOf(a, b)
	weights, two := impl.NullWeights(a, nulls)
	rounded, three := impl.RoundPhase(complex(3, 4), a)
	return fmt.Sprint(bitsOfAll(taper...), one, bitsOfWeights(weights), two, bitsOfWeights([]complex64{rounded}), three)
}

// Promise 1: weights and sets stay as they are, with what lies behind their ends.
func TestNumbersOfChapter4AreNotModified(t *testing.T) {
	weights, other := someWeights(30), append(someWeights(10), oddComplexes()[:40]...)
	failed := []int64{0, 1, 3, 4, 8, 9, 12, 15, 16, 2, 1}
	wasWeights, wasOther, wasFailed := bitsOfWeights(weights), bitsOfWeights(other), slices.Clone(failed)
	for count := range 20 {
		for few := range len(failed) {
			bits, by := int64(count-few), float32(few)/3-1
			report := func(a, b []complex64, set []int64) string {
				return weightsReport(a, b, by, set, bits)
			}
			before := report(weights[:count], other[:few], failed[:few])
			isEqual(t, "report again", report(weights[:count], other[:few], failed[:few]), before)
			isEqual(t, "report of copies",
				report(slices.Clone(weights[:count]), slices.Clone(other[:few]), slices.Clone(failed[:few])), before)
			before = report(other[few:few+count], weights[:few], failed[:few])
			isEqual(t, "report of others again", report(other[few:few+count], weights[:few], failed[:few]), before)
		}
	}
	isEqual(t, "weights", bitsOfWeights(weights), wasWeights)
	isEqual(t, "other weights", bitsOfWeights(other), wasOther)
	isResult(t, "failed elements", failed, true, wasFailed)
	isEqual(t, "nil and empty", weightsReport(nil, nil, 1, nil, 1), weightsReport([]complex64{}, []complex64{}, 1, []int64{}, 1))
	isEqual(t, "no failed elements", weightsReport(ones(2), nil, 1, nil, 1), weightsReport(ones(2), nil, 1, []int64{}, 1))
}

// Promise 1: places, tapers and nulls stay as they are.
func TestPlacesOfChapter4AreNotModified(t *testing.T) {
	places, taper := onLine(20), append(oddNumbers(), 1, 2, 3, 4)
	nulls := []int64{5, 5, -64, 64, 0, 3, 17, -9, 20, 21, 22, 23, 24, 25, 26, 27, 28, 29}
	wasPlaces, wasTaper, wasNulls := slices.Clone(places), bitsOfAll(taper...), slices.Clone(nulls)
	for count := range 19 {
		d := impl.Direction{U: int64(count), V: -2}
		before := steeredReport(places[:count], d, taper[:count])
		isEqual(t, "report again", steeredReport(places[:count], d, taper[:count]), before)
		isEqual(t, "report of copies", steeredReport(slices.Clone(places[:count]), d, slices.Clone(taper[:count])), before)
		before = kindsReport(int64(count), 7, nulls[:count])
		isEqual(t, "report again", kindsReport(int64(count), 7, nulls[:count]), before)
		isEqual(t, "report of a copy", kindsReport(int64(count), 7, slices.Clone(nulls[:count])), before)
	}
	if !slices.Equal(places, wasPlaces) || bitsOfAll(taper...) != wasTaper || !slices.Equal(nulls, wasNulls) {
		t.Fatal("a list has been modified")
	}
	isEqual(t, "nil and empty places", steeredReport(nil, impl.Direction{}, nil),
		steeredReport([]impl.Place{}, impl.Direction{}, []float32{}))
	isEqual(t, "nil and empty nulls", kindsReport(1, 1, nil), kindsReport(1, 1, []int64{}))
}

// Promise 1: all functions of chapter 4 return for integers far from all limits.
func TestFarIntegersReturnWeights(t *testing.T) {
	numbers := append(farIntegers(), -65, -1, 0, 1, 3, 10, 15, 16, 17, 64, 65, 4096, 4097)
	for i, a := range numbers {
		for k, b := range numbers {
			c := numbers[(i*5+k)%len(numbers)]
			isEqual(t, "report of kinds", kindsReport(a, b, []int64{c, b}), kindsReport(a, b, []int64{c, b}))
			isEqual(t, "report of weights", weightsReport(ones(3), ones(2), 2, []int64{a, b}, c),
				weightsReport(ones(3), ones(2), 2, []int64{a, b}, c))
			far := []impl.Place{{X: a, Y: b}, {X: c}}
			d := impl.Direction{U: c, V: a}
			isEqual(t, "report of places", steeredReport(far, d, []float32{1, 2}), steeredReport(far, d, []float32{1, 2}))
		}
	}
}

// Promise 1: each result of chapter 4 is new memory.
func TestResultsOfChapter4ShareNoMemory(t *testing.T) {
	weights, taper, nulls := []complex64{1, 2, 3, 4}, []float32{1, 2}, []int64{1, 2}
	for kind := range int64(4) {
		isNewMemory(t, "taper", func() ([]float32, bool) { return impl.TaperOf(kind, 4) }, 77)
	}
	isNewMemory(t, "steered", func() ([]complex64, bool) { return impl.SteerWeights(onLine(2), impl.Direction{U: 9}, taper) }, 77)
	isNewMemory(t, "scaled", func() ([]complex64, bool) { return impl.ScaleWeights(weights, 1) }, 77)
	isNewMemory(t, "norm", func() ([]complex64, bool) { return impl.NormWeights(weights) }, 77)
	isNewMemory(t, "norm of 1", func() ([]complex64, bool) { return impl.NormWeights(weights[:1]) }, 77)
	isNewMemory(t, "differences", func() ([]complex64, bool) { return impl.DifferenceWeights(weights) }, 77)
	isNewMemory(t, "all left", func() ([]complex64, bool) { return impl.WithoutElements(weights, nil) }, 77)
	isNewMemory(t, "left", func() ([]complex64, bool) { return impl.WithoutElements(weights, nulls) }, 77)
	isNewMemory(t, "rounded", func() ([]complex64, bool) { return impl.RoundPhases(weights, 10) }, 77)
	isNewMemory(t, "no zeros", func() ([]complex64, bool) { return impl.PolynomialOf(nil) }, 77)
	isNewMemory(t, "polynomial", func() ([]complex64, bool) { return impl.PolynomialOf(weights) }, 77)
	isNewMemory(t, "product", func() ([]complex64, bool) { return impl.MulPolynomials(weights, weights) }, 77)
	isNewMemory(t, "product with 1", func() ([]complex64, bool) { return impl.MulPolynomials(weights, ones(1)) }, 77)
	isNewMemory(t, "no nulls", func() ([]complex64, bool) { return impl.NullWeights(1, nil) }, 77)
	isNewMemory(t, "nulls", func() ([]complex64, bool) { return impl.NullWeights(1, nulls) }, 77)
	isResult(t, "weights", weights, true, []complex64{1, 2, 3, 4})
	isResult(t, "taper numbers", taper, true, []float32{1, 2})
	isResult(t, "wanted nulls", nulls, true, []int64{1, 2})
}
