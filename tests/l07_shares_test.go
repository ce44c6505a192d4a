package tests

import (
	"fmt"
	"math"
	"testing"

	"loop.example/g01181/impl"
)

// isShare fails the test unless PhaseShare returns want, or fails where none is
// wanted.
func isShare(t *testing.T, x, y complex64, spacing, want int64, wanted bool) {
	t.Helper()
	if !wanted {
		want = 0
	}
	got, ok := impl.PhaseShare(x, y, spacing)
	isEqual(t, fmt.Sprint("share taken ", x, y, spacing), ok, wanted)
	isEqual(t, fmt.Sprint("share ", x, y, spacing), got, want)
}

// shareTold returns the share of phases, and whether it is one.
func shareTold(x, y complex64, spacing int64) (int64, bool) {
	angle := float64(impl.AngleOf(impl.MulComplex(complex(real(x), -imag(x)), y)))
	if math.IsNaN(angle) {
		return 0, false
	}
	share := nearestEven(angle * 4096 / float64(spacing))
	return int64(share), share >= -64 && share <= 64
}

func TestPhaseShare(t *testing.T) {
	i := complex64(complex(0, 1))
	cases := []struct {
		x, y    complex64
		spacing int64
		want    int64
	}{
		{1, i, 32, 32}, {i, 1, 32, -32}, {1, -i, 32, -32}, {i, -1, 32, 32}, {i, i, 32, 0}, {-1, -1, 1, 0}, {complex(3, 4), complex(3, 4), 77, 0},
		{1, complex(1, 1), 32, 16}, {complex(1, -1), 1, 32, 16}, {1, i, 64, 16}, {1, i, 4096, 0}, {1, i, 16, 64}, {1, -i, 16, -64},
		// Opposite phases are those of the angle 0.5.
		{1, -1, 32, 64}, {-1, 1, 32, 64}, {i, -i, 64, 32},
		// Phases do not depend on the powers.
		{100, complex(0, 0.01), 32, 32}, {complex(0, -1e-10), 1e10, 32, 32}, {1e-3, complex(0, -1e-20), 32, -32},
		// Zeros have the angle +0.
		{0, 0, 1, 0}, {0, i, 1, 0}, {i, 0, 4096, 0}, {complex(minusZero(), minusZero()), -1, 7, 0}, {1e-40, 1e-40, 7, 0}, {1e-40, complex(0, 1e-40), 7, 0},
	}
	for _, c := range cases {
		isShare(t, c.x, c.y, c.spacing, c.want, true)
	}
}

// Promise 8: shares are found from the phases of two places, as far as they are less
// than half a turn apart.
func TestSharesAreFoundFromPhases(t *testing.T) {
	found := 0
	for spacing := int64(1); spacing <= 4096; spacing++ {
		for u := int64(-64); u <= 64; u++ {
			if u*spacing >= 2048 || u*spacing <= -2048 {
				continue
			}
			line, _ := impl.LinePlaces(2, spacing)
			phases, _ := impl.SteeringOf(line, impl.Direction{U: u})
			isShare(t, phases[0], phases[1], spacing, u, true)
			isShare(t, phases[1], phases[0], spacing, -u, true)
			found++
		}
	}
	isEqual(t, "some shares", found > 10000, true)
	for _, first := range drawn(3, 20) {
		for u := int64(-64); u <= 64; u++ {
			for _, spacing := range []int64{5, 16, 31} {
				second := impl.MulComplex(first, impl.PhasorOf(float64(u*spacing)/4096))
				isShare(t, first, second, spacing, u, true)
			}
		}
	}
}

// Halves between two shares go to the even one, also at both ends.
func TestHalvesOfShares(t *testing.T) {
	halves, ends := 0, 0
	for spacing := int64(1); spacing <= 40; spacing++ {
		for n := int64(-131); n <= 131; n++ {
			if n*spacing > 4096 || n*spacing < -4096 {
				continue
			}
			y := impl.PhasorOf(float64(n*spacing) / 8192)
			if float64(impl.AngleOf(y)) != float64(n*spacing)/8192 || n%2 == 0 {
				continue
			}
			even := (n + 1) / 2
			if even%2 != 0 {
				even--
			}
			if n < 0 {
				even = (n - 1) / 2
				if even%2 != 0 {
					even++
				}
			}
			isShare(t, 1, y, spacing, even, even >= -64 && even <= 64)
			halves++
			if n == 129 || n == -129 {
				isEqual(t, "end", even == 64 || even == -64, true)
				ends++
			}
		}
	}
	isEqual(t, fmt.Sprint("some halves ", halves, ends), halves > 1000 && ends > 20, true)
}

// Phases beside the halves, and at all angles, have the shares that are told, or
// none if these are no shares.
func TestSharesOfAllPhases(t *testing.T) {
	taken, refused := 0, 0
	for n := range 8192 {
		y := impl.PhasorOf(float64(n) / 8192)
		for _, spacing := range []int64{1, 2, 3, 15, 16, 31, 32, 33, 100, 1000, 4095, 4096} {
			want, ok := shareTold(1, y, spacing)
			isShare(t, 1, y, spacing, want, ok)
			if ok {
				taken++
			} else {
				refused++
			}
		}
	}
	isEqual(t, "both ways", taken > 1000 && refused > 1000, true)
	for k, x := range drawn(6, 2000) {
		y, spacing := drawn(uint32(k), 1)[0], int64(k*k%4096+1)
		want, ok := shareTold(x, y, spacing)
		isShare(t, x, y, spacing, want, ok)
	}
}

// Shares are refused where they are beyond both ends, and where they would be 65 when
// they are rounded.
func TestSharesBeyondTheEnds(t *testing.T) {
	for spacing := int64(1); spacing <= 31; spacing++ {
		for _, over := range []float64{64.4, 64.49} {
			isShare(t, 1, impl.PhasorOf(over*float64(spacing)/4096), spacing, 64, over*float64(spacing) < 2048)
			isShare(t, impl.PhasorOf(over*float64(spacing)/4096), 1, spacing, -64, over*float64(spacing) < 2048)
		}
		for _, over := range []float64{64.51, 65, 66, 70} {
			if over*float64(spacing) < 2048 {
				isShare(t, 1, impl.PhasorOf(over*float64(spacing)/4096), spacing, 0, false)
				isShare(t, impl.PhasorOf(over*float64(spacing)/4096), 1, spacing, 0, false)
			}
		}
	}
	isShare(t, 1, -1, 31, 0, false)
	isShare(t, 1, -1, 1, 0, false)
	isShare(t, 1, complex(0, 1), 15, 0, false)
}

func TestPhaseShareRefuses(t *testing.T) {
	for _, spacing := range append(farIntegers(), -4096, -1, 0, 4097, 4098) {
		isShare(t, 1, 1, spacing, 0, false)
		isShare(t, 1, complex(0, 1), spacing, 0, false)
	}
	for _, spacing := range []int64{1, 2, 4095, 4096} {
		isShare(t, 1, 1, spacing, 0, true)
		// The angle of numbers that are not finite is a not-a-number, also where only
		// their product is not.
		for _, x := range []complex64{complex(nan32(), 0), complex(0, nan32()), complex(inf32(), 0), complex(1, -inf32()), complex(nan32(), inf32())} {
			isShare(t, 1, x, spacing, 0, false)
			isShare(t, x, 1, spacing, 0, false)
			isShare(t, x, 0, spacing, 0, false)
		}
		isShare(t, 1e20, 1e20, spacing, 0, false)
		isShare(t, complex(0, 3e38), complex(3e38, 0), spacing, 0, false)
	}
	for _, x := range oddComplexes() {
		for _, y := range []complex64{1, complex(3, -1), complex(0, 1e-38), math.MaxFloat32} {
			want, ok := shareTold(x, y, 32)
			isShare(t, x, y, 32, want, ok)
			want, ok = shareTold(y, x, 500)
			isShare(t, y, x, 500, want, ok)
		}
	}
}
