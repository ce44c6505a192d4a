package tests

import (
	"math"
	"testing"

	"loop.example/g01181/impl"
)

// Promise 2: quarters of turns have exact phasors, without negative zeros.
func TestPhasorsOfQuarters(t *testing.T) {
	want := []complex64{1, complex(0, 1), -1, complex(0, -1)}
	for n := -4000; n <= 4000; n++ {
		if n != 0 {
			isComplex(t, "quarter", impl.PhasorOf(float64(n)/4), want[(n+4000)%4])
		}
	}
	isComplex(t, "zero", impl.PhasorOf(0), complex(1, 0))
	isComplex(t, "minus zero", impl.PhasorOf(math.Copysign(0, -1)), complex(1, minusZero()))
}

func TestPhasorsToTheBit(t *testing.T) {
	cases := []struct {
		turns  float64
		re, im uint32
	}{
		{1.0 / 8, 0x3f3504f3, 0x3f3504f3},
		{-1.0 / 8, 0x3f3504f3, 0xbf3504f3},
		{1.0 / 3, 0xbf000000, 0x3f5db3d7},
		{-1.0 / 3, 0xbf000000, 0xbf5db3d7},
		{5.0 / 6, 0x3f000000, 0xbf5db3d7},
		{0.1, 0x3f4f1bbd, 0x3f167918},
		{123.456, 0xbf764772, 0x3e8bc05b},
		{0.2499999999, 0x302cb5fd, 0x3f800000},
		{1e-9, 0x3f800000, 0x31d7e37c},
		{math.SmallestNonzeroFloat64, 0x3f800000, 0},
		{-1e-20, 0x3f800000, 0},
		{-math.SmallestNonzeroFloat64, 0x3f800000, 0},
	}
	for _, c := range cases {
		isComplex(t, "phasor", impl.PhasorOf(c.turns), complex(bits32(c.re), bits32(c.im)))
	}
}

// 2 to the power of 52 is the least number of turns that is taken as whole.
func TestPhasorsOfManyTurns(t *testing.T) {
	limit := math.Exp2(52)
	for _, turns := range []float64{limit, -limit, limit + 1, 1e300, -math.MaxFloat64} {
		isComplex(t, "many turns", impl.PhasorOf(turns), complex(1, 0))
	}
	isComplex(t, "below the limit", impl.PhasorOf(limit-0.5), complex(-1, 0))
	isComplex(t, "above the negative limit", impl.PhasorOf(0.5-limit), complex(-1, 0))
	none := complex(nan32(), nan32())
	for _, turns := range []float64{math.NaN(), math.Inf(1), math.Inf(-1)} {
		isComplex(t, "turns not finite", impl.PhasorOf(turns), none)
	}
}

// Promise 2: phasors have their angles.
func TestPhasorsHaveTheirAngles(t *testing.T) {
	for n := -4095; n <= 4096; n++ {
		turns := float64(n) / 8192
		x := impl.PhasorOf(turns)
		s, c := math.Sincos(2 * math.Pi * turns)
		if math.Abs(float64(real(x))-c) > 1e-7 || math.Abs(float64(imag(x))-s) > 1e-7 {
			t.Fatalf("phasor of %v: got %v", turns, x)
		}
		if p := impl.PowerOf(x); math.Abs(float64(p)-1) > 3e-7 {
			t.Fatalf("power of the phasor of %v: got %v", turns, p)
		}
		angle := float64(impl.AngleOf(x))
		if math.Abs(angle-turns) > 6e-8 {
			t.Fatalf("angle of the phasor of %v: got %v", turns, angle)
		}
	}
	for n, want := range []float32{0, 0.25, 0.5, -0.25} {
		isNumber(t, "angle of a quarter", impl.AngleOf(impl.PhasorOf(float64(n)/4)), want)
	}
}

func TestAnglesToTheBit(t *testing.T) {
	cases := []struct {
		x    complex64
		want float32
	}{
		{1, 0},
		{complex(0, 1), 0.25},
		{complex(0, -2), -0.25},
		{complex(minusZero(), 1), 0.25},
		{complex(-1, 0), 0.5},
		{complex(-1, minusZero()), 0.5},
		{complex(1, minusZero()), 0},
		{complex(1, 1), 0.125},
		{complex(-1, -1), -0.375},
		{complex(3, 4), bits32(0x3e172029)},
		{complex(-3, 4), bits32(0x3eb46fec)},
		{complex(4, -3), bits32(0xbdd1bfae)},
		{complex(1, 2), bits32(0x3e346fec)},
		{complex(1e-30, 1e30), 0.25},
		{complex(3e38, -math.SmallestNonzeroFloat32), minusZero()},
		{complex(math.MaxFloat32, math.MaxFloat32), 0.125},
		{complex(math.SmallestNonzeroFloat32, math.SmallestNonzeroFloat32), 0.125},
	}
	for _, c := range cases {
		isNumber(t, "angle", impl.AngleOf(c.x), c.want)
	}
}

func TestAnglesAtEdges(t *testing.T) {
	for _, a := range []float32{0, minusZero()} {
		for _, b := range []float32{0, minusZero()} {
			isNumber(t, "angle of zeros", impl.AngleOf(complex(a, b)), 0)
		}
	}
	for _, x := range []float32{nan32(), inf32(), -inf32()} {
		for _, y := range oddNumbers() {
			isNumber(t, "angle with a real part not finite", impl.AngleOf(complex(x, y)), nan32())
			isNumber(t, "angle with an imaginary part not finite", impl.AngleOf(complex(y, x)), nan32())
		}
	}
}

func TestAnglesAreNearlyThoseOfTheLibrary(t *testing.T) {
	for x := -20; x <= 20; x++ {
		for y := -20; y <= 20; y++ {
			got := impl.AngleOf(complex(float32(x), float32(y)))
			want := math.Atan2(float64(y), float64(x)) / (2 * math.Pi)
			if math.Abs(float64(got)-want) > 3e-8 {
				t.Fatalf("angle of %d + %d i: got %v, want %v", x, y, got, want)
			}
		}
	}
}

func TestTenthsOf(t *testing.T) {
	cases := []struct {
		power float32
		want  int64
	}{
		{1, 0},
		{2, 30},
		{4, 60},
		{0.5, -30},
		{10, 100},
		{1000, 300},
		{0.001, -300},
		{1.5, 18},
		{0.75, -12},
		{bits32(0x3fbfffff), 18},
		{bits32(0x3f3fffff), -12},
		{bits32(0x3f817b6f), 0},
		{bits32(0x3f817b70), 1},
		{bits32(0x3ffc7859), 29},
		{bits32(0x3ffc785a), 30},
		{bits32(0x411e2b22), 99},
		{bits32(0x411e2b23), 100},
		{bits32(0x58b64495), 1521},
		{bits32(0x62b6042c), 2123},
		{bits32(0x0ebfeed6), -2932},
		{bits32(0x000000d5), -4253},
		{math.MaxFloat32, 3853},
		{bits32(0x00800000), -3793},
		{math.SmallestNonzeroFloat32, -4485},
	}
	for _, c := range cases {
		got, ok := impl.TenthsOf(c.power)
		isEqual(t, "power taken", ok, true)
		isEqual(t, "tenths", got, c.want)
	}
	for _, power := range []float32{0, minusZero(), -1, -math.SmallestNonzeroFloat32, inf32(), -inf32(), nan32()} {
		got, ok := impl.TenthsOf(power)
		isEqual(t, "power refused", ok, false)
		isEqual(t, "tenths of a power refused", got, 0)
	}
}
