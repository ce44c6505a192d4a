package tests

import (
	"fmt"
	"math"
	"testing"

	"loop.example/g01181/impl"
)

// isRounded fails the test unless RoundPhase of x succeeds with want.
func isRounded(t *testing.T, x complex64, bits int64, want complex64) {
	t.Helper()
	got, ok := impl.RoundPhase(x, bits)
	isEqual(t, "phase rounded", ok, true)
	isComplex(t, fmt.Sprint("phase of ", x, bits), got, want)
}

func TestRoundPhase(t *testing.T) {
	minus := minusZero()
	long := float32(math.Sqrt(9.0625))
	cases := []struct {
		x    complex64
		bits int64
		want complex64
	}{
		{5, 1, 5},
		{-5, 1, -5},
		{complex(4, 3), 1, 5},
		{complex(4, -3), 1, complex(5, minus)},
		{complex(-4, 3), 1, -5},
		{complex(-4, -3), 1, -5},
		{complex(4, 3), 2, 5},
		{complex(3, 4), 2, complex(0, 5)},
		{complex(-3, 4), 2, complex(0, 5)},
		{complex(-3, -4), 2, complex(0, -5)},
		{complex(3, -4), 2, complex(0, -5)},
		{complex(3, 0.25), 2, complex(long, 0)},
		{complex(3, -0.25), 2, complex(long, minus)},
		{complex(3, minus), 2, 3},
		{complex(-3, minus), 2, -3},
		{complex(0, 2), 10, complex(0, 2)},
		{complex(0, -2), 10, complex(0, -2)},
		{complex(4, 3), 3, complex(5*bits32(0x3f3504f3), 5*bits32(0x3f3504f3))},
		{complex(math.MaxFloat32, -math.SmallestNonzeroFloat32), 10, complex(math.MaxFloat32, minus)},
	}
	for _, c := range cases {
		isRounded(t, c.x, c.bits, c.want)
	}
}

// A phase between two is rounded to the even one of them.
func TestTiesBetweenPhases(t *testing.T) {
	minus, root := minusZero(), bits32(0x3fb504f3)
	cases := []struct {
		x    complex64
		bits int64
		want complex64
	}{
		{complex(0, 2), 1, 2},
		{complex(0, -2), 1, complex(2, minus)},
		{complex(minus, 2), 1, 2},
		{complex(1, 1), 2, complex(root, 0)},
		{complex(-1, 1), 2, complex(-root, 0)},
		{complex(1, -1), 2, complex(root, minus)},
		{complex(-1, -1), 2, complex(-root, 0)},
	}
	for _, c := range cases {
		isRounded(t, c.x, c.bits, c.want)
	}
	isNumber(t, "the angle of a tie", impl.AngleOf(complex(-1, 1)), 0.375)
}

// nearestEven returns the nearest integer to x, the even one of two, without a
// function of the library.
func nearestEven(x float64) float64 {
	below := math.Floor(x)
	if x-below > 0.5 || x-below == 0.5 && math.Mod(below, 2) != 0 {
		below++
	}
	return math.Copysign(below, x)
}

// All phases between, and right beside them, are rounded as told.
func TestAllTiesOfFewBits(t *testing.T) {
	for bits := int64(1); bits <= 10; bits++ {
		whole := math.Exp2(float64(bits))
		ties := 0
		for n := range 2048 {
			x := impl.PhasorOf(float64(n) / 2048)
			product := float64(impl.AngleOf(x)) * whole
			if product-math.Floor(product) == 0.5 {
				ties++
			}
			long := impl.LongOf(x)
			phase := impl.PhasorOf(nearestEven(product) / whole)
			isRounded(t, x, bits, complex(real(phase)*long, imag(phase)*long))
		}
		// The angles of other ties are not exact.
		if ties < 2 && bits <= 2 {
			t.Errorf("%d bits: only %d ties", bits, ties)
		}
	}
}

func TestRoundPhaseAtEdges(t *testing.T) {
	none := complex(nan32(), nan32())
	for bits := int64(1); bits <= 10; bits++ {
		for _, x := range []complex64{0, complex(minusZero(), 0), complex(0, minusZero()), complex(minusZero(), minusZero())} {
			isRounded(t, x, bits, 0)
		}
		for _, x := range oddComplexes() {
			angle := float64(impl.AngleOf(x))
			if math.IsNaN(angle) {
				isRounded(t, x, bits, none)
				continue
			}
			whole := math.Exp2(float64(bits))
			phase, long := impl.PhasorOf(nearestEven(angle*whole)/whole), impl.LongOf(x)
			isRounded(t, x, bits, complex(real(phase)*long, imag(phase)*long))
		}
	}
	// The length is an infinity here, which makes not-a-numbers of zeros.
	isRounded(t, complex(math.MaxFloat32, math.MaxFloat32), 2, complex(inf32(), nan32()))
	isRounded(t, complex(inf32(), 0), 1, none)
	isRounded(t, complex(0, nan32()), 10, none)
}

// A rounded number keeps its length, and its phase nearly, to half a step.
func TestRoundedPhasesAreNear(t *testing.T) {
	for bits := int64(1); bits <= 10; bits++ {
		for n := range 500 {
			x := impl.ScaleComplex(impl.PhasorOf(float64(n)/500), float32(1+n))
			got, _ := impl.RoundPhase(x, bits)
			steps := float64(impl.AngleOf(got)) * math.Exp2(float64(bits))
			away := math.Abs(float64(impl.AngleOf(got)) - float64(impl.AngleOf(x)))
			if math.Abs(steps-math.Round(steps)) > 1e-3 || min(away, 1-away) > 0.5001*math.Exp2(-float64(bits)) {
				t.Errorf("phase of %v with %d bits: got %v", x, bits, got)
			}
			if long := impl.LongOf(got); math.Abs(float64(long)-float64(1+n)) > 1e-6*float64(1+n) {
				t.Errorf("length of %v with %d bits: got %v", x, bits, long)
			}
		}
	}
}

func TestRoundPhasesRefuses(t *testing.T) {
	for _, bits := range append(farIntegers(), -1, 0, 11, 12, 63, 64) {
		for _, x := range []complex64{0, 1, complex(nan32(), 0), complex(0, inf32())} {
			got, ok := impl.RoundPhase(x, bits)
			isEqual(t, fmt.Sprint("bits ", bits), ok, false)
			isComplex(t, "nothing rounded", got, 0)
		}
		for _, count := range []int{0, 1, 16, 17} {
			got, ok := impl.RoundPhases(ones(count), bits)
			isWeights(t, fmt.Sprint("bits ", bits), got, ok, nil)
		}
	}
	for _, count := range []int{0, 17, 64, 100} {
		got, ok := impl.RoundPhases(ones(count), 1)
		isWeights(t, fmt.Sprint("rounded ", count), got, ok, nil)
	}
}

func TestRoundPhases(t *testing.T) {
	got, ok := impl.RoundPhases([]complex64{complex(4, -3), complex(-4, 3), complex(nan32(), 1), 0}, 1)
	isWeights(t, "rounded", got, ok, []complex64{complex(5, minusZero()), -5, complex(nan32(), nan32()), 0})
	odd := oddComplexes()
	for count := 1; count <= 16; count++ {
		for bits := int64(1); bits <= 10; bits++ {
			weights := append(someWeights(count)[:count/2], odd[count*int(bits):][:count-count/2]...)
			want := make([]complex64, count)
			for i, x := range weights {
				want[i], _ = impl.RoundPhase(x, bits)
			}
			got, ok := impl.RoundPhases(weights, bits)
			isWeights(t, fmt.Sprint("rounded ", weights, bits), got, ok, want)
		}
	}
}
