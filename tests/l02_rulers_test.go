package tests

import (
	"fmt"
	"slices"
	"testing"

	"loop.example/g01181/impl"
)

// upTo returns the integers from 0 on, count of them.
func upTo(count int64) []int64 {
	list := []int64{}
	for n := range count {
		list = append(list, n)
	}
	return list
}

// wrongMarks returns lists that are no marks.
func wrongMarks() [][]int64 {
	list := [][]int64{nil, {}, {-1}, {-1, 0, 1}, {4097}, {0, 4097}, {0, 0}, {3, 3}, {5, 4}, {0, 1, 4, 4}, {0, 6, 4}, upTo(17), upTo(5000)}
	for _, n := range farIntegers() {
		list = append(list, []int64{n}, []int64{0, n}, []int64{n, 5})
	}
	return list
}

func TestDifferencesAndHoles(t *testing.T) {
	cases := []struct{ marks, differences, holes []int64 }{
		{[]int64{0}, []int64{0}, []int64{}},
		{[]int64{4096}, []int64{0}, []int64{}},
		{[]int64{7, 8}, []int64{0, 1}, []int64{}},
		{[]int64{1, 2, 5}, []int64{0, 1, 3, 4}, []int64{2}},
		{[]int64{0, 1, 4, 6}, upTo(7), []int64{}},
		{[]int64{0, 1, 4, 9, 11}, []int64{0, 1, 2, 3, 4, 5, 7, 8, 9, 10, 11}, []int64{6}},
		{[]int64{2, 4, 6, 8}, []int64{0, 2, 4, 6}, []int64{1, 3, 5}},
		{[]int64{10, 20}, []int64{0, 10}, upTo(10)[1:]},
		{[]int64{0, 4096}, []int64{0, 4096}, upTo(4096)[1:]},
		{[]int64{4095, 4096}, []int64{0, 1}, []int64{}},
		{upTo(16), upTo(16), []int64{}},
	}
	for _, c := range cases {
		got, ok := impl.DifferencesOf(c.marks)
		isResult(t, fmt.Sprint("differences of ", c.marks), got, ok, c.differences)
		got, ok = impl.HolesOf(c.marks)
		isResult(t, fmt.Sprint("holes of ", c.marks), got, ok, c.holes)
	}
	for _, marks := range wrongMarks() {
		got, ok := impl.DifferencesOf(marks)
		isResult(t, fmt.Sprint("differences of ", len(marks)), got, ok, nil)
		got, ok = impl.HolesOf(marks)
		isResult(t, fmt.Sprint("holes of ", len(marks)), got, ok, nil)
	}
}

// The greatest marks have the most differences, all of them different ones.
func TestMostDifferences(t *testing.T) {
	marks := make([]int64, 13)
	for i := range marks {
		marks[i] = 1 << i
	}
	differences, ok := impl.DifferencesOf(marks)
	isEqual(t, "number of differences", ok && len(differences) == 13*12/2+1, true)
	isEqual(t, "least difference", differences[0], 0)
	isEqual(t, "greatest difference", differences[78], 4095)
	holes, ok := impl.HolesOf(marks)
	isEqual(t, "number of holes", ok && len(holes) == 4096-79, true)
	all := slices.Concat(differences, holes)
	slices.Sort(all)
	isResult(t, "differences and holes", all, true, upTo(4096))
	isEqual(t, "ruler of powers of 2", impl.IsRuler(marks), true)
}

func TestIsRuler(t *testing.T) {
	rulers := [][]int64{
		{0}, {4096}, {0, 1}, {0, 4096}, {5, 6, 8}, {0, 1, 3}, {0, 1, 4, 6}, {0, 2, 5, 6}, {1000, 1001, 1004, 1006},
		{0, 1, 4, 10, 18, 23, 25}, {0, 1, 4, 11, 26, 32, 56, 68, 76, 115, 117, 134, 150, 163, 168, 177},
	}
	for _, marks := range rulers {
		isEqual(t, fmt.Sprint("ruler ", marks), impl.IsRuler(marks), true)
	}
	others := [][]int64{{0, 1, 2}, {4094, 4095, 4096}, {0, 1, 3, 4}, {0, 1, 4, 5}, {0, 1, 3, 5}, {0, 2, 3, 5}, {0, 1, 4, 9, 13}, upTo(16)}
	for _, marks := range append(others, wrongMarks()...) {
		isEqual(t, fmt.Sprint("no ruler ", len(marks), marks[:min(len(marks), 9)]), impl.IsRuler(marks), false)
	}
}

// eachMarks visits all marks from 0 to last that have the given count.
func eachMarks(count, last int64, visit func(marks []int64)) {
	var extend func(marks []int64)
	extend = func(marks []int64) {
		if int64(len(marks)) == count-1 {
			visit(append(slices.Clone(marks), last))
			return
		}
		for next := marks[len(marks)-1] + 1; next < last; next++ {
			extend(append(marks, next))
		}
	}
	if count == 1 && last == 0 {
		visit([]int64{0})
	}
	if count > 1 && last > 0 {
		extend([]int64{0})
	}
}

// differencesTwice tells by bits, for marks up to 63, which differences are there
// and whether one comes twice.
func differencesTwice(marks []int64) (uint64, bool) {
	seen, twice := uint64(0), false
	for i, mark := range marks {
		for _, other := range marks[:i] {
			bit := uint64(1) << (mark - other)
			twice = twice || seen&bit != 0
			seen |= bit
		}
	}
	return seen, twice
}

// leastOf returns the least list of all marks that are wanted, or nil.
func leastOf(count, last int64, wanted func(marks []int64) bool) []int64 {
	var least []int64
	eachMarks(count, last, func(marks []int64) {
		if wanted(marks) && (least == nil || slices.Compare(marks, least) < 0) {
			least = marks
		}
	})
	return least
}

// Promise 3: the shortest rulers are as short as can be, and the least of these.
func TestShortestRuler(t *testing.T) {
	want := [][]int64{
		nil, {0}, {0, 1}, {0, 1, 3}, {0, 1, 4, 6}, {0, 1, 4, 9, 11}, {0, 1, 4, 10, 12, 17}, {0, 1, 4, 10, 18, 23, 25}, nil,
	}
	isRuler := func(marks []int64) bool {
		_, twice := differencesTwice(marks)
		return !twice
	}
	for count, marks := range want {
		got, ok := impl.ShortestRuler(int64(count))
		isResult(t, fmt.Sprint("shortest ruler of ", count), got, ok, marks)
		for last := int64(0); marks != nil; last++ {
			least := leastOf(int64(count), last, isRuler)
			if least != nil {
				isResult(t, fmt.Sprint("least ruler of ", count), got, ok, least)
				break
			}
		}
		isEqual(t, fmt.Sprint("ruler of ", count), impl.IsRuler(got), marks != nil)
	}
	for _, count := range append(farIntegers(), -1, 0, 8, 9) {
		got, ok := impl.ShortestRuler(count)
		isResult(t, fmt.Sprint("shortest ruler of ", count), got, ok, nil)
	}
}

// Promise 3: the fewest marks are as few as can be, and the least of these.
func TestFewestMarks(t *testing.T) {
	want := [][]int64{
		{0}, {0, 1}, {0, 1, 2}, {0, 1, 3}, {0, 1, 2, 4}, {0, 1, 2, 5}, {0, 1, 4, 6}, {0, 1, 2, 3, 7}, {0, 1, 2, 5, 8},
		{0, 1, 2, 6, 9}, {0, 1, 2, 3, 6, 10}, {0, 1, 2, 3, 7, 11}, {0, 1, 2, 3, 8, 12},
	}
	for length, marks := range want {
		got, ok := impl.FewestMarks(int64(length))
		isResult(t, fmt.Sprint("fewest marks up to ", length), got, ok, marks)
		isWhole := func(marks []int64) bool {
			seen, _ := differencesTwice(marks)
			return seen == 1<<(length+1)-2
		}
		for count := int64(1); ; count++ {
			least := leastOf(count, int64(length), isWhole)
			if least != nil {
				isResult(t, fmt.Sprint("least marks up to ", length), got, ok, least)
				break
			}
		}
		holes, ok := impl.HolesOf(got)
		isResult(t, fmt.Sprint("holes up to ", length), holes, ok, []int64{})
	}
	for _, length := range append(farIntegers(), -1, 13, 14) {
		got, ok := impl.FewestMarks(length)
		isResult(t, fmt.Sprint("fewest marks up to ", length), got, ok, nil)
	}
}
