package tests

import (
	"fmt"
	"math"
	"math/cmplx"
	"slices"
	"testing"

	"loop.example/g01181/impl"
)

// isNearlyZero reports whether a number is as near to 0 as the rounding of a product
// of count factors allows, each of which is 2 at most.
func isNearlyZero(x complex64, count int) bool {
	return cmplx.Abs(complex128(x)) < 2e-7*math.Exp2(float64(count))
}

func TestPolynomialOf(t *testing.T) {
	i := complex64(complex(0, 1))
	huge := complex(float32(1e30), 0)
	cases := []struct {
		zeros, want []complex64
	}{
		{nil, []complex64{1}},
		{[]complex64{1}, []complex64{-1, 1}},
		{[]complex64{1, -1}, []complex64{-1, 0, 1}},
		{[]complex64{-1, 1}, []complex64{-1, 0, 1}},
		{[]complex64{i, -i}, []complex64{1, 0, 1}},
		{[]complex64{complex(2, 3)}, []complex64{complex(-2, -3), 1}},
		{[]complex64{0, 0, 0}, []complex64{0, 0, 0, 1}},
		{[]complex64{complex(minusZero(), minusZero())}, []complex64{0, 1}},
		// Zeros that come twice are those of squares.
		{[]complex64{1, 1}, []complex64{1, -2, 1}},
		{[]complex64{2, 2, 2}, []complex64{-8, 12, -6, 1}},
		{[]complex64{i, i}, []complex64{-1, complex(0, -2), 1}},
		{[]complex64{1, 2, 1}, []complex64{-2, 5, -4, 1}},
		{[]complex64{1, 2, 3, 4, 5}, []complex64{-120, 274, -225, 85, -15, 1}},
		{[]complex64{huge, huge}, []complex64{complex(inf32(), 0), complex(-2e30, 0), 1}},
	}
	for _, c := range cases {
		got, ok := impl.PolynomialOf(c.zeros)
		isWeights(t, fmt.Sprint("polynomial of ", c.zeros), got, ok, c.want)
	}
}

// The +0 + 0 i behind the greatest power is multiplied as all others.
func TestPolynomialsOfZerosThatAreNotFinite(t *testing.T) {
	none := complex(nan32(), nan32())
	cases := []struct {
		zeros, want []complex64
	}{
		{[]complex64{complex(nan32(), 0)}, []complex64{none, none}},
		{[]complex64{complex(0, nan32())}, []complex64{none, none}},
		{[]complex64{complex(inf32(), 0)}, []complex64{complex(-inf32(), nan32()), none}},
		{[]complex64{complex(0, -inf32())}, []complex64{complex(nan32(), inf32()), none}},
		{[]complex64{complex(nan32(), 0), 1}, []complex64{none, none, none}},
		{[]complex64{1, complex(nan32(), 0)}, []complex64{none, none, none}},
	}
	for _, c := range cases {
		got, ok := impl.PolynomialOf(c.zeros)
		isWeights(t, fmt.Sprint("polynomial of ", c.zeros), got, ok, c.want)
	}
}

// minus returns the difference of both parts.
func minus(a, b complex64) complex64 {
	return complex(real(a)-real(b), imag(a)-imag(b))
}

// plus returns the sum of both parts.
func plus(a, b complex64) complex64 {
	return complex(real(a)+real(b), imag(a)+imag(b))
}

// polynomialInPlace returns the polynomial with some zeros, with each number
// changed in its place from the greatest power down.
func polynomialInPlace(zeros []complex64) []complex64 {
	numbers := make([]complex64, 40)
	numbers[0] = 1
	for n, z := range zeros {
		for k := n + 1; k >= 0; k-- {
			var before complex64
			if k > 0 {
				before = numbers[k-1]
			}
			numbers[k] = minus(before, impl.MulComplex(z, numbers[k]))
		}
	}
	return numbers[:len(zeros)+1]
}

// Polynomials of all sizes have the told bits.
func TestPolynomialsToTheBit(t *testing.T) {
	odd := oddComplexes()
	for count := range 16 {
		for k := range 60 {
			zeros := slices.Clone(someWeights(32)[k%17 : k%17+count])
			if count > 0 && k >= 17 {
				zeros[k%count] = odd[(k*count*5)%len(odd)]
			}
			got, ok := impl.PolynomialOf(zeros)
			isWeights(t, fmt.Sprint("polynomial of ", zeros), got, ok, polynomialInPlace(zeros))
		}
	}
}

// Promise 5: each zero is one of the polynomial, exactly where its parts are small
// integers, and nearly otherwise.
func TestZerosAreThoseOfThePolynomial(t *testing.T) {
	for a := -3; a <= 3; a++ {
		for b := -3; b <= 3; b++ {
			z := complex(float32(a), float32(b))
			zeros := []complex64{z, complex(2, -1), z, complex(float32(b), 1)}
			numbers, _ := impl.PolynomialOf(zeros)
			for _, zero := range zeros {
				value, ok := impl.ValueAt(numbers, zero)
				isEqual(t, "value taken", ok, true)
				isEqual(t, fmt.Sprint("value of ", zeros), value, 0)
			}
		}
	}
	for count := range 16 {
		zeros := make([]complex64, count)
		for k := range zeros {
			zeros[k] = impl.PhasorOf(float64(k*k) / 23)
		}
		numbers, _ := impl.PolynomialOf(zeros)
		for _, zero := range zeros {
			if value, ok := impl.ValueAt(numbers, zero); !ok || !isNearlyZero(value, count) {
				t.Errorf("value of the polynomial of %v at %v: got %v, %v", zeros, zero, value, ok)
			}
		}
	}
}

func TestPolynomialsHaveALimit(t *testing.T) {
	for count := range 40 {
		got, ok := impl.PolynomialOf(make([]complex64, count))
		var want []complex64
		if count <= 15 {
			want = append(make([]complex64, count), 1)
		}
		isWeights(t, fmt.Sprint("polynomial of ", count), got, ok, want)
	}
	got, ok := impl.PolynomialOf(ones(15))
	want := make([]complex64, 16)
	for k, ways := range pascal(15) {
		want[k] = complex(float32(ways), 0)
		if k%2 == 0 {
			want[k] = complex(-float32(ways), 0)
		}
	}
	isWeights(t, "one zero 15 times", got, ok, want)
}

func TestValueAt(t *testing.T) {
	i := complex64(complex(0, 1))
	minusNone := complex(minusZero(), minusZero())
	cases := []struct {
		numbers []complex64
		z, want complex64
	}{
		{[]complex64{7}, 100, 7},
		{[]complex64{minusNone}, 5, minusNone},
		{[]complex64{complex(1, 2)}, complex(nan32(), inf32()), complex(1, 2)},
		{[]complex64{-1, 0, 1}, 3, 8},
		{[]complex64{1, 2, 3}, 10, 321},
		{[]complex64{1, 2, 3}, i, complex(-2, 2)},
		{[]complex64{complex(0, 1), complex(1, 1)}, complex(2, -1), complex(3, 2)},
		{[]complex64{5, 0}, complex(inf32(), 0), complex(nan32(), nan32())},
		{[]complex64{minusNone, 1}, minusNone, complex(0, minusZero())},
		{[]complex64{0, 1}, minusNone, 0},
		// The number is added to the product when that is rounded.
		{[]complex64{-1, complex(bits32(0x3f800001), 0)}, complex(bits32(0x3f800001), 0), complex(bits32(0x34800000), 0)},
		{[]complex64{1, 0, -1e8, 1}, 1e8, 1},
	}
	for _, c := range cases {
		got, ok := impl.ValueAt(c.numbers, c.z)
		isEqual(t, "value taken", ok, true)
		isComplex(t, fmt.Sprint("value of ", c.numbers, c.z), got, c.want)
	}
	odd := oddComplexes()
	for k, z := range odd {
		numbers := append(someWeights(1+k%15), odd[k*7%len(odd)])
		want := numbers[len(numbers)-1]
		for n := len(numbers) - 2; n >= 0; n-- {
			want = plus(impl.MulComplex(want, z), numbers[n])
		}
		got, ok := impl.ValueAt(numbers, z)
		isEqual(t, "value taken", ok, true)
		isComplex(t, fmt.Sprint("value of ", numbers, z), got, want)
	}
}

func TestValuesHaveALimit(t *testing.T) {
	for count := range 40 {
		got, ok := impl.ValueAt(ones(count), 1)
		isEqual(t, fmt.Sprint("value of ", count), ok, count >= 1 && count <= 16)
		if ok {
			isComplex(t, "value at 1", got, complex(float32(count), 0))
			continue
		}
		isComplex(t, "no value", got, 0)
	}
}

func TestMulPolynomials(t *testing.T) {
	i := complex64(complex(0, 1))
	none := complex(nan32(), nan32())
	cases := []struct {
		a, b, want []complex64
	}{
		{[]complex64{2}, []complex64{complex(3, -1)}, []complex64{complex(6, -2)}},
		{[]complex64{1, 1}, []complex64{-1, 1}, []complex64{-1, 0, 1}},
		{[]complex64{1, 2, 3}, []complex64{4, 5}, []complex64{4, 13, 22, 15}},
		{[]complex64{4, 5}, []complex64{1, 2, 3}, []complex64{4, 13, 22, 15}},
		{[]complex64{i, 1}, []complex64{-i, 1}, []complex64{1, 0, 1}},
		{[]complex64{0, 0, 1}, []complex64{0, 5}, []complex64{0, 0, 0, 5}},
		// Each sum begins with +0 + 0 i.
		{[]complex64{-1}, []complex64{0, complex(0, 5)}, []complex64{0, complex(0, -5)}},
		// Each sum is rounded from the number 0 of a on.
		{[]complex64{1, 1e8, -1e8}, ones(3), []complex64{1, 1e8, 0, 0, -1e8}},
		{[]complex64{-1e8, 1e8, 1}, ones(3), []complex64{-1e8, 0, 1, 1e8, 1}},
		{ones(3), []complex64{1, 1e8, -1e8}, []complex64{1, 1e8, 1, 0, -1e8}},
		// There are no products with numbers that are not there.
		{[]complex64{complex(inf32(), inf32()), 1}, []complex64{1, 1}, []complex64{none, none, 1}},
		{[]complex64{1, 2}, []complex64{3, complex(nan32(), 0)}, []complex64{3, none, none}},
	}
	for _, c := range cases {
		got, ok := impl.MulPolynomials(c.a, c.b)
		isWeights(t, fmt.Sprint("product of ", c.a, c.b), got, ok, c.want)
	}
}

// Products of all sizes have the told bits, and at most 16 numbers.
func TestProductsOfPolynomialsToTheBit(t *testing.T) {
	odd := oddComplexes()
	for m := range 20 {
		for n := range 20 {
			a, b := someWeights(m), someWeights(n + 5)[5:]
			if m > 0 && n > 0 {
				a[n%m], b[m%n] = odd[m*n%len(odd)], odd[m*13%len(odd)]
			}
			var want []complex64
			if m > 0 && n > 0 && m+n <= 17 {
				want = make([]complex64, m+n-1)
			}
			for k := range want {
				for i := range a {
					if k-i >= 0 && k-i < n {
						want[k] = plus(want[k], impl.MulComplex(a[i], b[k-i]))
					}
				}
			}
			got, ok := impl.MulPolynomials(a, b)
			isWeights(t, fmt.Sprint("product of ", m, n), got, ok, want)
		}
	}
}

func TestNullWeights(t *testing.T) {
	minus, i := minusZero(), complex64(complex(0, 1))
	cases := []struct {
		spacing int64
		nulls   []int64
		want    []complex64
	}{
		{1, nil, []complex64{complex(1, minus)}},
		{4096, []int64{}, []complex64{complex(1, minus)}},
		{32, []int64{32}, []complex64{i, complex(1, minus)}},
		{32, []int64{-32}, []complex64{complex(0, -1), complex(1, minus)}},
		{32, []int64{64}, []complex64{complex(1, minus), complex(1, minus)}},
		{32, []int64{0}, []complex64{complex(-1, minus), complex(1, minus)}},
		{4096, []int64{5}, []complex64{complex(-1, minus), complex(1, minus)}},
		// Nulls need not be a set: they can come twice and in any order.
		{32, []int64{32, 32}, []complex64{complex(-1, minus), complex(0, 2), complex(1, minus)}},
		{32, []int64{0, 64}, []complex64{complex(-1, minus), complex(0, minus), complex(1, minus)}},
		{32, []int64{64, 0}, []complex64{complex(-1, minus), complex(0, minus), complex(1, minus)}},
		{64, []int64{16, 16, 0}, []complex64{complex(1, minus), complex(-1, -2), complex(-1, 2), complex(1, minus)}},
	}
	for _, c := range cases {
		got, ok := impl.NullWeights(c.spacing, c.nulls)
		isWeights(t, fmt.Sprint("nulls ", c.spacing, c.nulls), got, ok, c.want)
	}
}

// nullsFrom returns count nulls, some of them twice for an odd step.
func nullsFrom(first, step int64, count int) []int64 {
	nulls := make([]int64, count)
	for k := range nulls {
		nulls[k] = (first+step*int64(k)+64)%129 - 64
		if step%2 != 0 && k%5 == 4 {
			nulls[k] = nulls[k-1]
		}
	}
	return nulls
}

// Promise 5: each null is a zero of the polynomial of the weights, and nothing is
// received from there.
func TestNothingIsReceivedFromNulls(t *testing.T) {
	for count := range 16 {
		for _, spacing := range []int64{1, 7, 32, 40, 64, 273, 1000, 4095, 4096} {
			for step := int64(1); step <= 60; step += 7 {
				nulls := nullsFrom(step*spacing%64, step, count)
				weights, ok := impl.NullWeights(spacing, nulls)
				isEqual(t, "weights with nulls", ok && len(weights) == count+1, true)
				isNullAt(t, spacing, nulls, weights)
			}
		}
	}
}

// isNullAt fails the test unless weights receive nearly nothing from their nulls.
func isNullAt(t *testing.T, spacing int64, nulls []int64, weights []complex64) {
	t.Helper()
	var zeros, conjugates []complex64
	for _, u := range nulls {
		zeros = append(zeros, impl.PhasorOf(float64(spacing*u)/4096))
	}
	for _, x := range weights {
		conjugates = append(conjugates, impl.ConjugateOf(x))
	}
	isWeights(t, "conjugates of weights", conjugates, true, polynomialInPlace(zeros))
	line, isLine := impl.LinePlaces(int64(len(weights)), spacing)
	for k, u := range nulls {
		if value, ok := impl.ValueAt(conjugates, zeros[k]); !ok || !isNearlyZero(value, len(nulls)) {
			t.Errorf("nulls %d, %v: value at %d is %v", spacing, nulls, u, value)
		}
		if got, ok := impl.PatternAt(line, weights, impl.Direction{U: u}); ok != isLine || !isNearlyZero(got, len(nulls)) {
			t.Errorf("nulls %d, %v: received %v, %v from %d", spacing, nulls, got, ok, u)
		}
	}
}

// Weights with nulls receive something from elsewhere.
func TestSomethingIsReceivedBesideNulls(t *testing.T) {
	line, _ := impl.LinePlaces(4, 32)
	weights, _ := impl.NullWeights(32, []int64{-32, 20, 40})
	for u := int64(-64); u <= 64; u++ {
		power, ok := impl.PowerAt(line, weights, impl.Direction{U: u})
		isEqual(t, "power taken", ok, true)
		isNull := u == -32 || u == 20 || u == 40
		if isNull != (power < 1e-10) {
			t.Errorf("power at %d: got %v", u, power)
		}
	}
}

func TestNullWeightsRefuses(t *testing.T) {
	for _, wrong := range append(farIntegers(), -4097, -1, 0, 4097) {
		for _, nulls := range [][]int64{nil, {0}, {64}} {
			got, ok := impl.NullWeights(wrong, nulls)
			isWeights(t, fmt.Sprint("spacing ", wrong), got, ok, nil)
		}
	}
	for _, wrong := range append(farIntegers(), -65, 65, 4096) {
		for _, nulls := range [][]int64{{wrong}, {0, wrong}, {wrong, 0}, {64, -64, wrong}} {
			got, ok := impl.NullWeights(32, nulls)
			isWeights(t, fmt.Sprint("nulls ", nulls), got, ok, nil)
		}
	}
	for count := range 40 {
		for _, spacing := range []int64{1, 4096} {
			for _, u := range []int64{-64, 64} {
				got, ok := impl.NullWeights(spacing, slices.Repeat([]int64{u}, count))
				isEqual(t, fmt.Sprint("nulls ", count), ok, count <= 15)
				isEqual(t, "weights with nulls", ok, len(got) == count+1)
			}
		}
	}
}
