package tests

import (
	"fmt"
	"slices"
	"testing"

	"loop.example/g01181/impl"
)

// placesReport calls all functions of chapter 2 with places, and tells all results.
func placesReport(places []impl.Place, d impl.Direction, dx, dy int64) string {
	shifted, one := impl.ShiftPlaces(places, dx, dy)
	phases, two := impl.SteeringOf(places, d)
	low, high, three := impl.BoxOfPlaces(places)
	least, four := impl.LeastDistance(places)
	text, five := impl.ComplexText(phases)
	return fmt.Sprint(impl.ValidPlaces(places), shifted, one, text, two, low, high, three, least, four, five)
}

// offsetsReport calls the functions of chapter 2 with integers, and tells all results.
func offsetsReport(a, b, c, d int64) string {
	line, one := impl.LinePlaces(a, b)
	grid, two := impl.GridPlaces(a, b, c, d)
	ring, three := impl.RingPlaces(a, b)
	steps, four := impl.StepsAt(impl.Place{X: a, Y: b}, impl.Direction{U: c, V: d})
	twins, five := impl.TwinBeams(a, b)
	ruler, six := impl.ShortestRuler(a)
	few, seven := impl.FewestMarks(a)
	return fmt.Sprint(line, one, grid, two, ring, three, steps, four, twins, five, ruler, six, few, seven,
		impl.ValidDirection(impl.Direction{U: a, V: b}))
}

// marksReport calls the functions of chapter 2 with marks, and tells all results.
func marksReport(marks []int64) string {
	differences, one := impl.DifferencesOf(marks)
	holes, two := impl.HolesOf(marks)
	return fmt.Sprint(differences, one, holes, two, impl.IsRuler(marks))
}

// Promise 1: all functions of chapter 2 return, and equal arguments have equal results.
func TestEqualOffsetsHaveEqualResults(t *testing.T) {
	numbers := append(farIntegers(), -4097, -65, -64, -1, 0, 1, 2, 3, 16, 17, 64, 4096, 4097)
	for i, a := range numbers {
		for _, b := range numbers {
			c, d := numbers[(i+7)%len(numbers)], numbers[(i+12)%len(numbers)]
			isEqual(t, "report again", offsetsReport(a, b, c, d), offsetsReport(a, b, c, d))
		}
	}
}

// Promise 1: places and marks stay as they are, with what lies behind their ends.
func TestPlacesAndMarksAreNotModified(t *testing.T) {
	places, marks := onLine(20), []int64{0, 1, 4, 9, 11, 4000, 4096, 5, 6, 7, 8, 9, 10, 11, 12, 13, 14, 15, 16, 17}
	wasPlaces, wasMarks := slices.Clone(places), slices.Clone(marks)
	for length := range len(places) + 1 {
		d, shift := impl.Direction{U: int64(length), V: -3}, int64(length*99)
		before := placesReport(places[:length], d, shift, -shift)
		isEqual(t, "report again", placesReport(places[:length], d, shift, -shift), before)
		isEqual(t, "report of a copy", placesReport(slices.Clone(places[:length]), d, shift, -shift), before)
		before = marksReport(marks[:length])
		isEqual(t, "report again", marksReport(marks[:length]), before)
		isEqual(t, "report of a copy", marksReport(slices.Clone(marks[:length])), before)
	}
	if !slices.Equal(places, wasPlaces) || !slices.Equal(marks, wasMarks) {
		t.Fatal("a list has been modified")
	}
	isEqual(t, "nil and empty places", placesReport(nil, impl.Direction{}, 0, 0), placesReport([]impl.Place{}, impl.Direction{}, 0, 0))
	isEqual(t, "nil and empty marks", marksReport(nil), marksReport([]int64{}))
}

// isNewMemory fails the test unless a list stays the same after another one, of
// the same call, has been overwritten.
func isNewMemory[T comparable](t *testing.T, what string, call func() ([]T, bool), other T) {
	t.Helper()
	first, _ := call()
	was := slices.Clone(first)
	first = first[:cap(first)]
	for i := range first {
		first[i] = other
	}
	again, ok := call()
	isResult(t, what+" again", again, ok, was)
}

// Promise 1: each result of chapter 2 is new memory.
func TestResultsOfChapter2ShareNoMemory(t *testing.T) {
	places, marks := onLine(3), []int64{0, 1, 2}
	far := impl.Place{X: 77, Y: 99}
	isNewMemory(t, "line", func() ([]impl.Place, bool) { return impl.LinePlaces(3, 1) }, far)
	isNewMemory(t, "grid", func() ([]impl.Place, bool) { return impl.GridPlaces(2, 2, 1, 1) }, far)
	isNewMemory(t, "ring", func() ([]impl.Place, bool) { return impl.RingPlaces(3, 5) }, far)
	isNewMemory(t, "shifted places", func() ([]impl.Place, bool) { return impl.ShiftPlaces(places, 0, 0) }, far)
	isNewMemory(t, "steering", func() ([]complex64, bool) { return impl.SteeringOf(places, impl.Direction{U: 5}) }, 9)
	isNewMemory(t, "twins", func() ([]int64, bool) { return impl.TwinBeams(64, 10) }, 77)
	isNewMemory(t, "differences", func() ([]int64, bool) { return impl.DifferencesOf(marks) }, 77)
	isNewMemory(t, "holes", func() ([]int64, bool) { return impl.HolesOf([]int64{0, 5}) }, 77)
	isNewMemory(t, "shortest ruler", func() ([]int64, bool) { return impl.ShortestRuler(4) }, 77)
	isNewMemory(t, "fewest marks", func() ([]int64, bool) { return impl.FewestMarks(9) }, 77)
	isResult(t, "places", places, true, onLine(3))
	isResult(t, "marks", marks, true, upTo(3))
}
