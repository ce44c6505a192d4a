package tests

import (
	"fmt"
	"math"
	"slices"
	"strings"
	"testing"

	"loop.example/g01181/impl"
)

// numbersReport calls all functions of chapter 1 with complex numbers, and
// tells all results bit by bit.
func numbersReport(x, y complex64) string {
	turns := float64(real(x))
	tenths, tenthsOK := impl.TenthsOf(real(x))
	number, numberOK := impl.FromBits(impl.BitsOf(imag(x)))
	numbers := []complex64{
		impl.NarrowComplex(complex(turns*1.1, float64(imag(y))*1.1)), impl.MulComplex(x, y), impl.ScaleComplex(x, real(y)),
		impl.ConjugateOf(x), impl.QuotientOf(x, y), impl.PhasorOf(turns), impl.PhasorOf(turns * 0.37),
		complex(impl.PowerOf(x), impl.LongOf(x)), complex(impl.AngleOf(x), impl.RootNumber(real(x))), complex(number, 0),
	}
	text, textOK := impl.ComplexText(numbers)
	return fmt.Sprint(text, textOK, tenths, tenthsOK, numberOK, impl.SameNumber(real(x), real(y)), impl.SameComplex(x, y),
		impl.IsFinite(real(x)), impl.IsFiniteComplex(x))
}

// listsReport calls the functions of chapter 1 with lists, and tells all results.
func listsReport(a, b []complex64, items []int64) string {
	sum, one := impl.SumComplex(a)
	dot, two := impl.DotComplex(a, b)
	conjugate, three := impl.DotConjugate(a, b)
	powers, four := impl.PowersOf(a)
	first, five := impl.ComplexText(a)
	text, six := impl.ListText(items)
	results, seven := impl.ComplexText([]complex64{sum, dot, conjugate, complex(powers, 0)})
	return fmt.Sprint(results, first, text, one, two, three, four, five, six, seven)
}

// textsReport calls the functions of chapter 1 with texts, and tells all results.
func textsReport(s string, n int64) string {
	list, one := impl.ReadComplex(s)
	again, two := impl.ComplexText(list)
	decimal, three := impl.ReadDecimal(s)
	items, four := impl.ReadList(s)
	check, five := impl.CheckOf(n, s)
	number, six := impl.FromBits(n)
	return fmt.Sprint(again, one, two, decimal, three, items, four, check, five, impl.BitsOf(number), six, impl.IsName(s), impl.Decimal(n))
}

// Promise 1: all functions return, and equal arguments have equal results.
func TestEqualArgumentsHaveEqualResults(t *testing.T) {
	for _, x := range oddComplexes() {
		for _, y := range oddComplexes() {
			if numbersReport(x, y) != numbersReport(x, y) {
				t.Fatalf("%v and %v give different results", x, y)
			}
		}
	}
	for _, turns := range []float64{math.MaxFloat64, -math.MaxFloat64, math.SmallestNonzeroFloat64, 1 << 52, 1<<52 - 0.5, 1 << 63, -(1 << 63), -1e-17} {
		isComplex(t, "phasor again", impl.PhasorOf(turns), impl.PhasorOf(turns))
	}
	texts := []string{"", "none", ",", "-", "0", "-0", "3f80000000000000", "1,2", "a", "\x00\xff", strings.Repeat("1", 1000), strings.Repeat("0,", 70000)}
	for _, s := range texts {
		for _, n := range []int64{math.MinInt64, -1, 0, 1, 65002, 65003, 4294967295, 4294967296, math.MaxInt64} {
			isEqual(t, "report again", textsReport(s, n), textsReport(s, n))
		}
	}
}

// Promise 1: lists stay as they are, with what lies behind their ends.
func TestListsAreNotModified(t *testing.T) {
	odd := oddComplexes()
	for n := 0; n <= len(odd)-70; n += 7 {
		a, b := slices.Clone(odd[n:n+70]), slices.Clone(odd[70-n%70:140-n%70])
		items := make([]int64, 70)
		for i := range items {
			items[i] = int64(i*n) - 99
		}
		wasA, wasB, wasItems := slices.Clone(a), slices.Clone(b), slices.Clone(items)
		for _, length := range []int{0, 1, 5, 63, 64, 65, 70} {
			before := listsReport(a[:length], b[:length], items[:length])
			isEqual(t, "report again", listsReport(a[:length], b[:length], items[:length]), before)
		}
		if !sameList(a, wasA) || !sameList(b, wasB) || !slices.Equal(items, wasItems) {
			t.Fatal("a list has been modified")
		}
	}
	isEqual(t, "nil and empty lists", listsReport(nil, nil, nil), listsReport([]complex64{}, []complex64{}, []int64{}))
}

// Promise 1: each result is new memory.
func TestResultsShareNoMemory(t *testing.T) {
	first, _ := impl.ReadComplex("3f80000000000000,00000000c0000000")
	second, _ := impl.ReadComplex("3f80000000000000,00000000c0000000")
	first[0] = 9
	_ = append(first[:1], 9)
	isComplex(t, "other list", second[0], 1)
	isComplex(t, "other list", second[1], complex(0, -2))
	items, _ := impl.ReadList("1,2")
	others, _ := impl.ReadList("1,2")
	items[0], items[1] = 7, 8
	isEqual(t, "other item", others[0], 1)
	isEqual(t, "other item", others[1], 2)
}
