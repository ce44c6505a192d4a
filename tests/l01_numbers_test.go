package tests

import (
	"math"
	"testing"

	"loop.example/g01181/impl"
)

func TestSameNumber(t *testing.T) {
	cases := []struct {
		a, b float32
		want bool
	}{
		{1, 1, true},
		{1, 2, false},
		{1, -1, false},
		{0, 0, true},
		{0, minusZero(), false},
		{minusZero(), 0, false},
		{minusZero(), minusZero(), true},
		{nan32(), nan32(), true},
		{nan32(), bits32(0xff800001), true},
		{nan32(), 1, false},
		{1, nan32(), false},
		{inf32(), inf32(), true},
		{inf32(), -inf32(), false},
		{inf32(), nan32(), false},
		{1, bits32(0x3f800001), false},
	}
	for _, c := range cases {
		isEqual(t, "same number", impl.SameNumber(c.a, c.b), c.want)
		isEqual(t, "same real part", impl.SameComplex(complex(c.a, 5), complex(c.b, 5)), c.want)
		isEqual(t, "same imaginary part", impl.SameComplex(complex(5, c.a), complex(5, c.b)), c.want)
	}
	isEqual(t, "parts exchanged", impl.SameComplex(complex(1, 2), complex(2, 1)), false)
}

func TestIsFinite(t *testing.T) {
	for _, x := range oddNumbers() {
		want := x-x == 0
		isEqual(t, "finite number", impl.IsFinite(x), want)
		isEqual(t, "finite real part", impl.IsFiniteComplex(complex(x, 1)), want)
		isEqual(t, "finite imaginary part", impl.IsFiniteComplex(complex(1, x)), want)
	}
	isEqual(t, "greatest number", impl.IsFinite(math.MaxFloat32), true)
	isEqual(t, "infinity", impl.IsFinite(inf32()), false)
	isEqual(t, "less than all", impl.IsFinite(-inf32()), false)
	isEqual(t, "not-a-number", impl.IsFinite(nan32()), false)
}

func TestBitsOf(t *testing.T) {
	cases := []struct {
		x    float32
		want int64
	}{
		{0, 0},
		{minusZero(), 2147483648},
		{1, 1065353216},
		{-2, 3221225472},
		{inf32(), 2139095040},
		{-inf32(), 4286578688},
		{nan32(), 2143289344},
		{bits32(0x7f800001), 2143289344},
		{bits32(0xffffffff), 2143289344},
		{math.SmallestNonzeroFloat32, 1},
		{math.MaxFloat32, 2139095039},
	}
	for _, c := range cases {
		isEqual(t, "bits", impl.BitsOf(c.x), c.want)
	}
}

func TestFromBits(t *testing.T) {
	for _, x := range oddNumbers() {
		got, ok := impl.FromBits(impl.BitsOf(x))
		isEqual(t, "bits taken", ok, true)
		isNumber(t, "number of its bits", got, x)
	}
	for _, n := range []int64{2139095041, 2143289344, 2143289345, 4286578689, 4294967295} {
		got, ok := impl.FromBits(n)
		isEqual(t, "bits of not-a-numbers taken", ok, true)
		isNumber(t, "not-a-number", got, nan32())
	}
	for _, n := range []int64{-1, 4294967296, math.MinInt64, math.MaxInt64} {
		got, ok := impl.FromBits(n)
		isEqual(t, "bits refused", ok, false)
		isNumber(t, "number of bits refused", got, 0)
	}
}

func TestNarrowComplex(t *testing.T) {
	tie := 1 + math.Exp2(-24)
	cases := []struct {
		x    complex128
		want complex64
	}{
		{complex(0.5, 2), complex(0.5, 2)},
		{complex(tie, -tie), complex(1, -1)},
		{complex(math.Nextafter(tie, 2), 1+3*math.Exp2(-24)), complex(bits32(0x3f800001), bits32(0x3f800002))},
		{complex(1e300, -1e300), complex(inf32(), -inf32())},
		{complex(1e-300, -1e-300), complex(0, minusZero())},
		{complex(math.NaN(), math.Inf(-1)), complex(nan32(), -inf32())},
		{complex(math.Copysign(0, -1), math.Copysign(0, -1)), complex(minusZero(), minusZero())},
		{complex(math.Exp2(-150), math.Exp2(-149)), complex(0, math.SmallestNonzeroFloat32)},
	}
	for _, c := range cases {
		isComplex(t, "narrowed", impl.NarrowComplex(c.x), c.want)
	}
}

// Promise 2: products of small integers are exact.
func TestProductsOfIntegersAreExact(t *testing.T) {
	numbers := []int{-2047, -100, -3, -2, -1, 0, 1, 2, 3, 5, 99, 2047}
	for _, a := range numbers {
		for _, b := range numbers {
			for _, c := range numbers {
				for _, d := range numbers {
					got := impl.MulComplex(complex(float32(a), float32(b)), complex(float32(c), float32(d)))
					if got != complex(float32(a*c-b*d), float32(a*d+b*c)) {
						t.Fatalf("(%d + %d i)(%d + %d i): got %v", a, b, c, d, got)
					}
				}
			}
		}
	}
	isComplex(t, "example", impl.MulComplex(complex(1, 2), complex(3, -1)), complex(5, 5))
}

func TestMulComplexRoundsOnce(t *testing.T) {
	a, b := float32(1+math.Exp2(-13)), float32(1+math.Exp2(-12))
	// The squares differ in bits that a 32-bit product has lost.
	got := impl.MulComplex(complex(a, b), complex(a, 1))
	isComplex(t, "cancelled", got, complex(float32(math.Exp2(-26)), float32(2+2*math.Exp2(-12)+math.Exp2(-25))))
	great := float32(2e38)
	isComplex(t, "overflow within", impl.MulComplex(complex(great, great), complex(2, 2)), complex(0, inf32()))
}

func TestMulComplexAtEdges(t *testing.T) {
	inf, nan, minus := inf32(), nan32(), minusZero()
	cases := []struct{ x, y, want complex64 }{
		{complex(0, 0), complex(0, 0), complex(0, 0)},
		{complex(minus, 0), complex(1, 0), complex(minus, 0)},
		{complex(minus, 0), complex(1, 1), complex(minus, 0)},
		{complex(0, minus), complex(1, 0), complex(0, 0)},
		{complex(minus, minus), complex(1, minus), complex(minus, 0)},
		{complex(inf, 0), complex(1, 0), complex(inf, nan)},
		{complex(inf, inf), complex(1, 1), complex(nan, inf)},
		{complex(nan, 0), complex(1, 1), complex(nan, nan)},
		{complex(math.MaxFloat32, 0), complex(2, 0), complex(inf, 0)},
	}
	for _, c := range cases {
		isComplex(t, "product", impl.MulComplex(c.x, c.y), c.want)
	}
}

func TestScaleComplex(t *testing.T) {
	inf, nan, minus := inf32(), nan32(), minusZero()
	cases := []struct {
		x    complex64
		by   float32
		want complex64
	}{
		{complex(1, 2), 0.5, complex(0.5, 1)},
		{complex(1, -2), 0, complex(0, minus)},
		{complex(1, -2), minus, complex(minus, 0)},
		{complex(inf, 1), 0, complex(nan, 0)},
		{complex(inf, -1), 2, complex(inf, -2)},
		{complex(1, 0), inf, complex(inf, nan)},
		{complex(1, 2), nan, complex(nan, nan)},
		{complex(math.MaxFloat32, math.SmallestNonzeroFloat32), 2, complex(inf, bits32(2))},
		{complex(bits32(0x3f800001), 3), bits32(0x3f800001), complex(bits32(0x3f800002), bits32(0x40400002))},
	}
	for _, c := range cases {
		isComplex(t, "scaled", impl.ScaleComplex(c.x, c.by), c.want)
	}
}

func TestConjugateOf(t *testing.T) {
	isComplex(t, "ordinary", impl.ConjugateOf(complex(1, 2)), complex(1, -2))
	isComplex(t, "zero", impl.ConjugateOf(complex(0, 0)), complex(0, minusZero()))
	isComplex(t, "minus zero", impl.ConjugateOf(complex(minusZero(), minusZero())), complex(minusZero(), 0))
	isComplex(t, "infinity", impl.ConjugateOf(complex(inf32(), -inf32())), complex(inf32(), inf32()))
	isComplex(t, "not-a-number", impl.ConjugateOf(complex(1, nan32())), complex(1, nan32()))
}

func TestPowerOfAndLongOf(t *testing.T) {
	cases := []struct {
		x           complex64
		power, long float32
	}{
		{complex(3, 4), 25, 5},
		{complex(-3, -4), 25, 5},
		{0, 0, 0},
		{complex(minusZero(), minusZero()), 0, 0},
		{complex(0, 1e-30), 0, 1e-30},
		{complex(2e38, 0), inf32(), 2e38},
		{complex(4096, 1), 16777216, 4096},
		{complex(-inf32(), 1), inf32(), inf32()},
		{complex(1, nan32()), nan32(), nan32()},
		{complex(inf32(), nan32()), nan32(), nan32()},
		{complex(1, 1), 2, bits32(0x3fb504f3)},
	}
	for _, c := range cases {
		isNumber(t, "power", impl.PowerOf(c.x), c.power)
		isNumber(t, "long", impl.LongOf(c.x), c.long)
	}
}

func TestQuotientOf(t *testing.T) {
	minus := minusZero()
	cases := []struct{ x, y, want complex64 }{
		{complex(0, 4), 2, complex(0, 2)},
		{complex(5, 5), complex(1, 2), complex(3, -1)},
		{complex(1, 2), complex(3, -1), complex(bits32(0x3dcccccd), bits32(0x3f333333))},
		{1, 3, complex(bits32(0x3eaaaaab), 0)},
		{complex(-1, 0), 2, complex(-0.5, 0)},
		{complex(minus, minus), 1, complex(minus, 0)},
		{complex(2, 1), 1e-30, complex(bits32(0x71c9f2ca), bits32(0x7149f2ca))},
		{complex(1e-30, 0), complex(0, 1e-30), complex(0, -1)},
		{complex(2e38, 2e38), complex(2e38, 2e38), complex(1, 0)},
		{complex(math.MaxFloat32, -1), 0.5, complex(inf32(), -2)},
	}
	for _, c := range cases {
		isComplex(t, "quotient", impl.QuotientOf(c.x, c.y), c.want)
	}
}

// Whatever x is, both parts of its product with a zero are zeros or
// not-a-numbers, and these divided by zero are not-a-numbers.
func TestQuotientsByZero(t *testing.T) {
	zeros := []complex64{0, complex(minusZero(), 0), complex(0, minusZero()), complex(minusZero(), minusZero())}
	none := complex(nan32(), nan32())
	for _, x := range oddComplexes() {
		for _, y := range zeros {
			isComplex(t, "quotient by zero", impl.QuotientOf(x, y), none)
		}
	}
	isComplex(t, "by an infinity", impl.QuotientOf(1, complex(inf32(), 0)), none)
	isComplex(t, "by a not-a-number", impl.QuotientOf(1, complex(1, nan32())), none)
	isComplex(t, "of an infinity", impl.QuotientOf(complex(inf32(), 1), 2), complex(inf32(), nan32()))
}

func TestRootNumber(t *testing.T) {
	cases := []struct{ x, want float32 }{
		{9, 3},
		{0.25, 0.5},
		{2, bits32(0x3fb504f3)},
		{0, 0},
		{minusZero(), minusZero()},
		{-1, nan32()},
		{-math.SmallestNonzeroFloat32, nan32()},
		{inf32(), inf32()},
		{-inf32(), nan32()},
		{nan32(), nan32()},
		{math.SmallestNonzeroFloat32, bits32(0x1a3504f3)},
	}
	for _, c := range cases {
		isNumber(t, "root", impl.RootNumber(c.x), c.want)
	}
}
