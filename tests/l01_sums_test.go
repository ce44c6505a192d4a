package tests

import (
	"math"
	"testing"

	"loop.example/g01181/impl"
)

// isSum fails the test unless a sum has succeeded with want.
func isSum(t *testing.T, what string, got complex64, ok bool, want complex64) {
	t.Helper()
	isEqual(t, what+" taken", ok, true)
	isComplex(t, what, got, want)
}

// isNoSum fails the test unless a sum has failed with 0.
func isNoSum(t *testing.T, what string, got complex64, ok bool) {
	t.Helper()
	isEqual(t, what+" refused", ok, false)
	isComplex(t, what, got, 0)
}

func TestSumComplex(t *testing.T) {
	big := float32(1 << 24)
	cases := []struct {
		list []complex64
		want complex64
	}{
		{nil, 0},
		{[]complex64{}, 0},
		{[]complex64{1, complex(2, 3)}, complex(3, 3)},
		{[]complex64{complex(minusZero(), minusZero())}, 0},
		{[]complex64{complex(big, 1), complex(1, 1), complex(1, big)}, complex(big, big+2)},
		{[]complex64{complex(math.MaxFloat32, 1), complex(math.MaxFloat32, 1), complex(-math.MaxFloat32, 1)}, complex(inf32(), 3)},
		{[]complex64{complex(inf32(), 1), complex(-inf32(), 1)}, complex(nan32(), 2)},
		{[]complex64{complex(1, nan32()), 1}, complex(2, nan32())},
	}
	for _, c := range cases {
		got, ok := impl.SumComplex(c.list)
		isSum(t, "sum", got, ok, c.want)
	}
}

func TestDotComplex(t *testing.T) {
	i := complex64(complex(0, 1))
	got, ok := impl.DotComplex([]complex64{i}, []complex64{i})
	isSum(t, "i i", got, ok, complex(-1, 0))
	got, ok = impl.DotComplex([]complex64{complex(1, 2), 2}, []complex64{complex(3, -1), i})
	isSum(t, "two products", got, ok, complex(5, 7))
	got, ok = impl.DotComplex(nil, []complex64{})
	isSum(t, "no products", got, ok, 0)
	got, ok = impl.DotComplex([]complex64{complex(minusZero(), 0)}, ones(1))
	isSum(t, "a negative zero", got, ok, 0)
	got, ok = impl.DotComplex([]complex64{complex(inf32(), 0)}, ones(1))
	isSum(t, "an infinity", got, ok, complex(inf32(), nan32()))
}

func TestDotConjugate(t *testing.T) {
	i := complex64(complex(0, 1))
	got, ok := impl.DotConjugate([]complex64{i}, []complex64{i})
	isSum(t, "-i i", got, ok, 1)
	got, ok = impl.DotConjugate([]complex64{complex(1, 2)}, []complex64{complex(3, -1)})
	isSum(t, "the first one conjugated", got, ok, complex(1, -7))
	got, ok = impl.DotConjugate([]complex64{i, 1}, []complex64{1, i})
	isSum(t, "two products", got, ok, 0)
	got, ok = impl.DotConjugate(nil, nil)
	isSum(t, "no products", got, ok, 0)
	got, ok = impl.DotConjugate([]complex64{complex(1, nan32())}, ones(1))
	isSum(t, "a not-a-number", got, ok, complex(nan32(), nan32()))
}

// Each product is narrowed before it is added, and sums go from left to right.
func TestDotsAreRoundedInOrder(t *testing.T) {
	a := complex(float32(1+math.Exp2(-13)), 0)
	minus := complex(float32(-1-math.Exp2(-12)), 0)
	got, ok := impl.DotComplex([]complex64{a, minus}, []complex64{a, 1})
	isSum(t, "narrowed product", got, ok, 0)
	got, ok = impl.DotConjugate([]complex64{a, minus}, []complex64{a, 1})
	isSum(t, "narrowed product of a conjugate", got, ok, 0)
	big := complex(float32(1<<24), 0)
	got, ok = impl.DotComplex([]complex64{big, 1, 1}, ones(3))
	isSum(t, "great number first", got, ok, big)
	got, ok = impl.DotComplex([]complex64{1, 1, big}, ones(3))
	isSum(t, "great number last", got, ok, big+2)
	got, ok = impl.DotConjugate([]complex64{big, 1, 1}, ones(3))
	isSum(t, "great conjugate first", got, ok, big)
	got, ok = impl.DotConjugate([]complex64{1, 1, big}, ones(3))
	isSum(t, "great conjugate last", got, ok, big+2)
}

func TestPowersOf(t *testing.T) {
	x := complex64(complex(4096, 1))
	cases := []struct {
		list []complex64
		want float32
	}{
		{nil, 0},
		{[]complex64{complex(minusZero(), minusZero())}, 0},
		{[]complex64{complex(3, 4), 1}, 26},
		{[]complex64{4096, 1, 1, 1}, 16777220},
		{[]complex64{x, x, x}, 50331652},
		{[]complex64{1e-30, 1e-30}, 0},
		{[]complex64{1e30, 1}, inf32()},
		{[]complex64{complex(1, inf32()), complex(0, 1)}, inf32()},
		{[]complex64{complex(inf32(), 1), complex(nan32(), 1)}, nan32()},
	}
	for _, c := range cases {
		got, ok := impl.PowersOf(c.list)
		isEqual(t, "powers taken", ok, true)
		isNumber(t, "powers", got, c.want)
	}
	// In the middle of two 32-bit numbers, it matters whether the 64-bit sum has
	// lost the ones or has had them before the great number.
	great := complex64(complex(1<<27, 1<<15))
	got, _ := impl.PowersOf([]complex64{great, 1, 1, 1})
	isNumber(t, "great power first", got, float32(math.Exp2(54)))
	got, _ = impl.PowersOf([]complex64{1, 1, 1, great})
	isNumber(t, "great power last", got, float32(math.Exp2(54)+math.Exp2(31)))
}

func TestSumsHaveALimit(t *testing.T) {
	most, more := ones(impl.MaxNumbers), ones(impl.MaxNumbers+1)
	got, ok := impl.SumComplex(most)
	isSum(t, "most numbers", got, ok, 64)
	got, ok = impl.DotComplex(most, most)
	isSum(t, "most products", got, ok, 64)
	got, ok = impl.DotConjugate(most, most)
	isSum(t, "most conjugates", got, ok, 64)
	power, ok := impl.PowersOf(most)
	isEqual(t, "most powers taken", ok, true)
	isNumber(t, "most powers", power, 64)

	got, ok = impl.SumComplex(more)
	isNoSum(t, "one number more", got, ok)
	got, ok = impl.DotComplex(more, more)
	isNoSum(t, "one product more", got, ok)
	got, ok = impl.DotConjugate(more, more)
	isNoSum(t, "one conjugate more", got, ok)
	power, ok = impl.PowersOf(more)
	isEqual(t, "one power more refused", ok, false)
	isNumber(t, "one power more", power, 0)
}

func TestDotsOfDifferentLengths(t *testing.T) {
	lengths := [][2]int{{1, 0}, {0, 1}, {2, 3}, {3, 2}, {64, 65}, {65, 64}}
	for _, n := range lengths {
		got, ok := impl.DotComplex(ones(n[0]), ones(n[1]))
		isNoSum(t, "products of different lengths", got, ok)
		got, ok = impl.DotConjugate(ones(n[0]), ones(n[1]))
		isNoSum(t, "conjugates of different lengths", got, ok)
	}
}
