package tests

import (
	"fmt"
	"math"
	"testing"

	"loop.example/g01181/impl"
)

// isWeights fails the test unless a call has succeeded with the numbers want, or
// has failed with no numbers where want is nil.
func isWeights(t *testing.T, what string, got []complex64, ok bool, want []complex64) {
	t.Helper()
	if ok != (want != nil) || !sameList(got, want) {
		t.Errorf("%s: got %v, %v, want %v", what, got, ok, want)
	}
}

func TestOuterWeights(t *testing.T) {
	i := complex64(complex(0, 1))
	cases := []struct {
		a, b, want []complex64
	}{
		{[]complex64{1, 2}, []complex64{1, i}, []complex64{1, 2, i, 2 * i}},
		{[]complex64{1, 2, 3}, []complex64{complex(0, -1)}, []complex64{complex(0, -1), complex(0, -2), complex(0, -3)}},
		{[]complex64{complex(1, 2)}, []complex64{complex(3, -1), 2}, []complex64{complex(5, 5), complex(2, 4)}},
		{[]complex64{5}, []complex64{7}, []complex64{35}},
		{[]complex64{complex(nan32(), 0)}, []complex64{1}, []complex64{complex(nan32(), nan32())}},
	}
	for _, c := range cases {
		got, ok := impl.OuterWeights(c.a, c.b)
		isWeights(t, fmt.Sprint("outer ", c.a, c.b), got, ok, c.want)
	}
	odd := oddComplexes()
	for k := range odd {
		a, b := []complex64{odd[k], 2}, []complex64{odd[k*11%len(odd)], odd[k*5%len(odd)]}
		var want []complex64
		for _, y := range b {
			for _, x := range a {
				want = append(want, impl.MulComplex(x, y))
			}
		}
		got, ok := impl.OuterWeights(a, b)
		isWeights(t, fmt.Sprint("outer ", a, b), got, ok, want)
	}
}

// Outer weights have at most as many numbers as there are elements.
func TestOuterWeightsHaveALimit(t *testing.T) {
	for columns := range 19 {
		for rows := range 19 {
			got, ok := impl.OuterWeights(ones(columns), ones(rows))
			var want []complex64
			if columns*rows > 0 && columns*rows <= 16 {
				want = ones(columns * rows)
			}
			isWeights(t, fmt.Sprint("outer ", columns, rows), got, ok, want)
		}
	}
	for _, count := range []int{1, 16} {
		got, ok := impl.OuterWeights(nil, ones(count))
		isWeights(t, "outer of none", got, ok, nil)
	}
}

// The pattern of outer weights is nearly the product of both patterns.
func TestOuterWeightsHaveTheProductOfPatterns(t *testing.T) {
	grid, _ := impl.GridPlaces(5, 3, 30, 41)
	row, _ := impl.GridPlaces(5, 1, 30, 41)
	column, _ := impl.GridPlaces(1, 3, 30, 41)
	a, b := someWeights(5), someWeights(8)[5:]
	outer, _ := impl.OuterWeights(a, b)
	for k, d := range allDirections() {
		if k%53 != 0 {
			continue
		}
		whole, _ := impl.PatternAt(grid, outer, d)
		x, _ := impl.PatternAt(row, a, d)
		y, _ := impl.PatternAt(column, b, d)
		isNear(t, fmt.Sprint("pattern of the grid at ", d), whole, x*y)
	}
}

// isNear fails the test unless both parts of got and want are near.
func isNear(t *testing.T, what string, got, want complex64) {
	t.Helper()
	if !(math.Abs(float64(real(got-want))) < 1e-4) || !(math.Abs(float64(imag(got-want))) < 1e-4) {
		t.Errorf("%s: got %v, want nearly %v", what, got, want)
	}
}

func TestMirrorWeights(t *testing.T) {
	cases := []struct {
		weights, want []complex64
	}{
		{[]complex64{complex(0, 1), 2}, []complex64{complex(2, minusZero()), complex(0, -1)}},
		{[]complex64{complex(1, 2), complex(3, 4), complex(5, -6)}, []complex64{complex(5, 6), complex(3, -4), complex(1, -2)}},
		{[]complex64{complex(minusZero(), minusZero())}, []complex64{complex(minusZero(), 0)}},
		{[]complex64{complex(inf32(), nan32())}, []complex64{complex(inf32(), nan32())}},
	}
	for _, c := range cases {
		got, ok := impl.MirrorWeights(c.weights)
		isWeights(t, fmt.Sprint("mirror ", c.weights), got, ok, c.want)
	}
	for _, count := range []int{0, 17, 64, 100} {
		got, ok := impl.MirrorWeights(ones(count))
		isWeights(t, fmt.Sprint("mirror of ", count), got, ok, nil)
	}
	most, ok := impl.MirrorWeights(someWeights(16))
	isEqual(t, "most weights mirrored", ok && len(most) == 16, true)
	again, ok := impl.MirrorWeights(most)
	isWeights(t, "mirror of a mirror", again, ok, someWeights(16))
}

// Mirrored weights have nearly the same powers on a line.
func TestMirrorWeightsHaveTheSamePowers(t *testing.T) {
	line, _ := impl.LinePlaces(7, 29)
	weights := someWeights(7)
	mirrored, _ := impl.MirrorWeights(weights)
	for u := int64(-64); u <= 64; u++ {
		x, _ := impl.PowerAt(line, weights, impl.Direction{U: u})
		y, _ := impl.PowerAt(line, mirrored, impl.Direction{U: u})
		isNear(t, fmt.Sprint("mirrored power at ", u), complex(y, 0), complex(x, 0))
	}
}

func TestShiftWeights(t *testing.T) {
	i := complex64(complex(0, 1))
	two := []impl.Place{{}, {X: 32}}
	cases := []struct {
		weights []complex64
		d       impl.Direction
		want    []complex64
	}{
		{ones(2), impl.Direction{U: 32}, []complex64{1, i}},
		{[]complex64{complex(1, 2), complex(3, 4)}, impl.Direction{U: 32}, []complex64{complex(1, 2), complex(-4, 3)}},
		{[]complex64{complex(1, 2), complex(3, 4)}, impl.Direction{V: 64}, []complex64{complex(1, 2), complex(3, 4)}},
		{[]complex64{0, 5}, impl.Direction{U: -64}, []complex64{0, -5}},
	}
	for _, c := range cases {
		got, ok := impl.ShiftWeights(two, c.weights, c.d)
		isWeights(t, fmt.Sprint("shifted ", c.weights, c.d), got, ok, c.want)
	}
	odd, places := oddComplexes(), onLine(16)
	for k := 0; k+16 <= len(odd); k += 9 {
		d := impl.Direction{U: int64(k % 60), V: -11}
		phases, _ := impl.SteeringOf(places, d)
		want := make([]complex64, 16)
		for n := range want {
			want[n] = impl.MulComplex(odd[k+n], phases[n])
		}
		got, ok := impl.ShiftWeights(places, odd[k:k+16], d)
		isWeights(t, fmt.Sprint("shifted ", odd[k:k+16], d), got, ok, want)
	}
}

// Shifted weights have nearly the pattern of other directions.
func TestShiftWeightsMovesThePattern(t *testing.T) {
	places, weights := []impl.Place{{X: 5}, {X: 77, Y: -9}, {X: -30, Y: 64}, {Y: 8}}, someWeights(4)
	by := impl.Direction{U: 21, V: -13}
	shifted, _ := impl.ShiftWeights(places, weights, by)
	for u := int64(-40); u <= 20; u += 4 {
		for v := int64(-20); v <= 30; v += 5 {
			was, _ := impl.PatternAt(places, weights, impl.Direction{U: u, V: v})
			got, ok := impl.PatternAt(places, shifted, impl.Direction{U: u + by.U, V: v + by.V})
			isEqual(t, "pattern taken", ok, true)
			isNear(t, fmt.Sprint("moved pattern at ", u, v), got, was)
		}
	}
}
