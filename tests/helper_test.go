package tests

import (
	"math"
	"slices"
	"testing"

	"loop.example/g01181/impl"
)

// bits32 returns the number with the given bits, without the help of impl.
func bits32(n uint32) float32 { return math.Float32frombits(n) }

// nan32, inf32 and minusZero are numbers that a Go literal cannot have.
func nan32() float32     { return float32(math.NaN()) }
func inf32() float32     { return float32(math.Inf(1)) }
func minusZero() float32 { return float32(math.Copysign(0, -1)) }

// sameBits reports whether two numbers are the same, without the help of impl.
func sameBits(a, b float32) bool {
	if a != a || b != b {
		return a != a && b != b
	}
	return math.Float32bits(a) == math.Float32bits(b)
}

// isNumber fails the test unless got and want are the same.
func isNumber(t *testing.T, what string, got, want float32) {
	t.Helper()
	if !sameBits(got, want) {
		t.Errorf("%s: got %v (%08x), want %v (%08x)", what, got, math.Float32bits(got), want, math.Float32bits(want))
	}
}

// isComplex fails the test unless both parts of got and want are the same.
func isComplex(t *testing.T, what string, got, want complex64) {
	t.Helper()
	isNumber(t, what+", real part", real(got), real(want))
	isNumber(t, what+", imaginary part", imag(got), imag(want))
}

// isEqual fails the test unless got is want.
func isEqual[T comparable](t *testing.T, what string, got, want T) {
	t.Helper()
	if got != want {
		t.Errorf("%s: got %v, want %v", what, got, want)
	}
}

// isResult fails the test unless a call has succeeded with the list want, or has
// failed with an empty one where want is nil.
func isResult[T comparable](t *testing.T, what string, got []T, ok bool, want []T) {
	t.Helper()
	if ok != (want != nil) || !slices.Equal(got, want) {
		t.Errorf("%s: got %v, %v, want %v", what, got, ok, want)
	}
}

// oddNumbers returns numbers at the edges of the format and some ordinary ones.
func oddNumbers() []float32 {
	return []float32{
		0, minusZero(), 1, -1, 0.5, 3, -7.25, nan32(), bits32(0xffc00001), inf32(), -inf32(),
		math.MaxFloat32, -math.MaxFloat32, math.SmallestNonzeroFloat32, -math.SmallestNonzeroFloat32, bits32(0x00800000),
	}
}

// oddComplexes returns all pairs of odd numbers.
func oddComplexes() []complex64 {
	var list []complex64
	for _, a := range oddNumbers() {
		for _, b := range oddNumbers() {
			list = append(list, complex(a, b))
		}
	}
	return list
}

// ones returns count complex numbers 1.
func ones(count int) []complex64 {
	list := make([]complex64, count)
	for i := range list {
		list[i] = 1
	}
	return list
}

// sameList reports whether two lists have the same numbers, without impl.
func sameList(a, b []complex64) bool {
	if len(a) != len(b) {
		return false
	}
	for i := range a {
		if !sameBits(real(a[i]), real(b[i])) || !sameBits(imag(a[i]), imag(b[i])) {
			return false
		}
	}
	return true
}

// The limits are part of the interface of chapter 1.
func TestLimitsOfChapter1(t *testing.T) {
	isEqual(t, "MaxNumbers", impl.MaxNumbers, 64)
	isEqual(t, "MaxValue", impl.MaxValue, 1000000000000000)
	isEqual(t, "MaxItems", impl.MaxItems, 64)
	isEqual(t, "CheckSize", impl.CheckSize, 65003)
}

// farIntegers returns integers far from all limits.
func farIntegers() []int64 {
	return []int64{math.MinInt64, math.MinInt64 + 1, -1 << 62, -1 << 32, 1 << 31, 1 << 32, 1 << 62, math.MaxInt64 - 1, math.MaxInt64}
}

// The limits are part of the interface of chapter 2.
func TestLimitsOfChapter2(t *testing.T) {
	isEqual(t, "MaxElements", impl.MaxElements, 16)
	isEqual(t, "MaxPlace", impl.MaxPlace, 4096)
	isEqual(t, "MaxMarks", impl.MaxMarks, 7)
	isEqual(t, "MaxRuler", impl.MaxRuler, 30)
}

// The limit is part of the interface of chapter 3.
func TestLimitsOfChapter3(t *testing.T) {
	isEqual(t, "MaxDrop", impl.MaxDrop, 2000)
}

// The limits and kinds are part of the interface of chapter 4.
func TestLimitsOfChapter4(t *testing.T) {
	isEqual(t, "MaxZeros", impl.MaxZeros, 15)
	isEqual(t, "TaperEven", impl.TaperEven, 0)
	isEqual(t, "TaperTriangle", impl.TaperTriangle, 1)
	isEqual(t, "TaperCosine", impl.TaperCosine, 2)
	isEqual(t, "TaperBinomial", impl.TaperBinomial, 3)
}

// The limits are part of the interface of chapter 5.
func TestLimitsOfChapter5(t *testing.T) {
	isEqual(t, "MaxSize", impl.MaxSize, 8)
	isEqual(t, "MaxBounds", impl.MaxBounds, 4)
}

// The limits are part of the interface of chapter 6.
func TestLimitsOfChapter6(t *testing.T) {
	isEqual(t, "MaxSources", impl.MaxSources, 4)
	isEqual(t, "MaxShots", impl.MaxShots, 64)
	isEqual(t, "ShotBlock", impl.ShotBlock, 4)
	isEqual(t, "MaxShotWorkers", impl.MaxShotWorkers, 8)
}

// The limit is part of the interface of chapter 7.
func TestLimitsOfChapter7(t *testing.T) {
	isEqual(t, "MaxTurns", impl.MaxTurns, 60)
}

// The limits are part of the interface of chapter 9.
func TestLimitsOfChapter9(t *testing.T) {
	isEqual(t, "MaxBeams", impl.MaxBeams, 7)
	isEqual(t, "MaxTick", impl.MaxTick, 10000)
	isEqual(t, "MaxSlots", impl.MaxSlots, 200)
}

// The limit is part of the interface of chapter 10.
func TestLimitsOfChapter10(t *testing.T) {
	isEqual(t, "MaxRecord", impl.MaxRecord, 64)
}
