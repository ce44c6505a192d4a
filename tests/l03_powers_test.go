package tests

import (
	"fmt"
	"math"
	"math/cmplx"
	"testing"

	"loop.example/g01181/impl"
)

// allDirections returns all valid directions, from the least V and U on.
func allDirections() []impl.Direction {
	var list []impl.Direction
	for v := int64(-64); v <= 64; v++ {
		for u := int64(-64); u <= 64; u++ {
			if u*u+v*v <= 4096 {
				list = append(list, impl.Direction{U: u, V: v})
			}
		}
	}
	return list
}

// someWeights returns count weights with parts from -2 to 2, in no order.
func someWeights(count int) []complex64 {
	list := make([]complex64, count)
	for i := range list {
		list[i] = complex(float32(i*37%41)/10-2, float32(i*29%31)/8-1.9)
	}
	return list
}

// isPowers fails the test unless got has the same numbers as want.
func isPowers(t *testing.T, what string, got []float32, ok bool, want []float32) {
	t.Helper()
	if ok != (want != nil) || len(got) != len(want) {
		t.Errorf("%s: got %v, %v, want %v", what, got, ok, want)
		return
	}
	for i := range want {
		isNumber(t, fmt.Sprint(what, ", power ", i), got[i], want[i])
	}
}

// Sums of quarters of turns with small weights are exact.
func TestPatternsAreExactAtQuarters(t *testing.T) {
	i := complex64(complex(0, 1))
	two, four := []impl.Place{{}, {X: 32}}, []impl.Place{{}, {X: 32}, {Y: 16}, {X: -16, Y: -32}}
	cases := []struct {
		places  []impl.Place
		weights []complex64
		d       impl.Direction
		want    complex64
	}{
		{two, ones(2), impl.Direction{}, 2},
		{two, ones(2), impl.Direction{U: 64}, 0},
		{two, ones(2), impl.Direction{U: 32}, complex(1, 1)},
		{two, ones(2), impl.Direction{U: -32}, complex(1, -1)},
		{two, []complex64{1, i}, impl.Direction{U: 32}, 2},
		{two, []complex64{1, i}, impl.Direction{U: -32}, 0},
		{two, []complex64{i, 1}, impl.Direction{}, complex(1, -1)},
		{two, []complex64{complex(2, 3), complex(-1, 5)}, impl.Direction{U: 32}, complex(7, -4)},
		{two, []complex64{0, 0}, impl.Direction{V: 64}, 0},
		{four, ones(4), impl.Direction{U: 64}, complex(1, -1)},
		{four, ones(4), impl.Direction{V: 64}, complex(1, 1)},
		{four, []complex64{1, 2, 3, 4}, impl.Direction{V: -64}, complex(-1, -3)},
		{[]impl.Place{{X: 4096, Y: -4096}}, []complex64{complex(3, -4)}, impl.Direction{U: 45, V: -45}, complex(3, 4)},
	}
	for _, c := range cases {
		what := fmt.Sprint(c.places, c.weights, c.d)
		pattern, ok := impl.PatternAt(c.places, c.weights, c.d)
		isEqual(t, "pattern taken", ok, true)
		isComplex(t, "pattern of "+what, pattern, c.want)
		power, ok := impl.PowerAt(c.places, c.weights, c.d)
		isEqual(t, "power taken", ok, true)
		isNumber(t, "power of "+what, power, real(c.want)*real(c.want)+imag(c.want)*imag(c.want))
	}
}

// Patterns have the bits of the told sums, for any weights.
func TestPatternsAreThoseSums(t *testing.T) {
	odd := oddComplexes()
	places := []impl.Place{{X: 3}, {X: 41, Y: -7}, {X: 100, Y: 2}, {X: -4096, Y: 4095}, {Y: 1}}
	for k := range odd {
		weights := someWeights(5)
		weights[k%5], weights[k*3%5] = odd[k], odd[k*7%len(odd)]
		d := impl.Direction{U: int64(k%79) - 39, V: int64(k%37) - 18}
		phases, _ := impl.SteeringOf(places, d)
		want, _ := impl.DotConjugate(weights, phases)
		pattern, ok := impl.PatternAt(places, weights, d)
		isEqual(t, "pattern taken", ok, true)
		isComplex(t, fmt.Sprint("pattern ", weights, d), pattern, want)
		power, ok := impl.PowerAt(places, weights, d)
		isEqual(t, "power taken", ok, true)
		isNumber(t, fmt.Sprint("power ", weights, d), power, impl.PowerOf(want))
		whole, _ := impl.PowersOf(weights)
		gain, ok := impl.GainAt(places, weights, d)
		isEqual(t, "gain taken", ok, true)
		isNumber(t, fmt.Sprint("gain ", weights, d), gain, impl.PowerOf(want)/whole)
	}
}

// Patterns are nearly the sums of the library's phases.
func TestPatternsAreSumsOfPhases(t *testing.T) {
	places, weights := onLine(16), someWeights(16)
	for k := range places {
		places[k] = impl.Place{X: int64(k * k * 5), Y: int64(300 - k*31)}
	}
	for k, d := range allDirections() {
		if k%101 != 0 {
			continue
		}
		var want complex128
		for i, p := range places {
			turns := float64(p.X*d.U+p.Y*d.V) / 4096
			want += cmplx.Conj(complex128(weights[i])) * cmplx.Rect(1, 2*math.Pi*turns)
		}
		got, ok := impl.PatternAt(places, weights, d)
		if !ok || cmplx.Abs(complex128(got)-want) > 1e-4 {
			t.Errorf("pattern at %v: got %v, %v, want nearly %v", d, got, ok, want)
		}
	}
}

func TestGainAt(t *testing.T) {
	two := []impl.Place{{}, {X: 32}}
	cases := []struct {
		weights []complex64
		d       impl.Direction
		want    float32
	}{
		{ones(2), impl.Direction{}, 2},
		{ones(2), impl.Direction{U: 32}, 1},
		{ones(2), impl.Direction{U: 64}, 0},
		{[]complex64{3, 3}, impl.Direction{}, 2},
		{[]complex64{1, 2}, impl.Direction{}, 1.8},
		{[]complex64{1, 2}, impl.Direction{U: 64}, 0.2},
		{[]complex64{0, 0}, impl.Direction{}, nan32()},
		{[]complex64{0, complex(0, minusZero())}, impl.Direction{U: 5}, nan32()},
		// The power is too great for a number, but not those of the weights.
		{[]complex64{1.2e19, 1.2e19}, impl.Direction{}, inf32()},
		{[]complex64{1.2e19, 1.2e19}, impl.Direction{U: 64}, 0},
		{[]complex64{2e19, 2e19}, impl.Direction{}, nan32()},
		{[]complex64{2e19, 2e19}, impl.Direction{U: 64}, 0},
		// The powers are too little for a number.
		{[]complex64{1e-30, 1e-30}, impl.Direction{}, nan32()},
		{[]complex64{complex(inf32(), 0), 1}, impl.Direction{}, nan32()},
		{[]complex64{complex(nan32(), 0), 1}, impl.Direction{}, nan32()},
	}
	for _, c := range cases {
		got, ok := impl.GainAt(two, c.weights, c.d)
		isEqual(t, "gain taken", ok, true)
		isNumber(t, fmt.Sprint("gain ", c.weights, c.d), got, c.want)
	}
}

// isPatternRefused fails the test unless the functions for directions refuse.
func isPatternRefused(t *testing.T, what string, places []impl.Place, weights []complex64, d impl.Direction) {
	t.Helper()
	pattern, one := impl.PatternAt(places, weights, d)
	power, two := impl.PowerAt(places, weights, d)
	gain, three := impl.GainAt(places, weights, d)
	shifted, four := impl.ShiftWeights(places, weights, d)
	isEqual(t, what+" refused", [4]bool{one, two, three, four}, [4]bool{})
	isComplex(t, what+" refused", pattern, 0)
	isNumber(t, what+" refused", power, 0)
	isNumber(t, what+" refused", gain, 0)
	isEqual(t, what+" refused", len(shifted), 0)
}

func TestPatternsRefuse(t *testing.T) {
	for _, places := range wrongPlaces() {
		isPatternRefused(t, fmt.Sprint("places ", places), places, ones(len(places)), impl.Direction{})
		cut, ok := impl.CutOf(places, ones(len(places)), 0, 0, 0)
		isResult(t, fmt.Sprint("cut of ", places), cut, ok, nil)
		isSkyRefused(t, places, ones(len(places)), 64)
	}
	for _, d := range wrongDirections() {
		isPatternRefused(t, fmt.Sprint("direction ", d), onLine(2), ones(2), d)
	}
	for _, count := range []int{0, 1, 3, 16, 17, 64, 65} {
		isPatternRefused(t, fmt.Sprint("weights ", count), onLine(2), ones(count), impl.Direction{})
		cut, ok := impl.CutOf(onLine(2), ones(count), 0, 0, 0)
		isResult(t, fmt.Sprint("cut of weights ", count), cut, ok, nil)
		isSkyRefused(t, onLine(2), ones(count), 64)
	}
	power, ok := impl.PowerAt(onLine(16), ones(16), impl.Direction{})
	isEqual(t, "most weights taken", ok, true)
	isNumber(t, "power of most weights", power, 256)
}

func TestCutOf(t *testing.T) {
	places, weights := []impl.Place{{}, {X: 32}, {X: 70, Y: 11}}, someWeights(3)
	for v := int64(-64); v <= 64; v += 16 {
		end := int64(math.Sqrt(float64(4096 - v*v)))
		for _, from := range []int64{-end, -1, 0, end} {
			for _, to := range []int64{-end, 0, 1, end} {
				var want []float32
				for u := from; u <= to; u++ {
					power, ok := impl.PowerAt(places, weights, impl.Direction{U: u, V: v})
					isEqual(t, "power taken", ok || end == 0, true)
					want = append(want, power)
				}
				// At the ends of V, there is one direction only.
				if end == 0 && (from < 0 || to > 0) {
					want = nil
				}
				cut, ok := impl.CutOf(places, weights, v, from, to)
				isPowers(t, fmt.Sprint("cut ", v, from, to), cut, ok, want)
			}
		}
	}
	cut, ok := impl.CutOf(places[:2], ones(2), 0, -64, 64)
	isEqual(t, "longest cut taken", ok && len(cut) == 129, true)
	for u, want := range map[int]float32{-64: 0, -32: 2, 0: 4, 32: 2, 64: 0} {
		isNumber(t, fmt.Sprint("power at ", u), cut[u+64], want)
	}
}

func TestCutsRefuse(t *testing.T) {
	refused := [][3]int64{
		{0, 1, 0}, {0, -65, 0}, {0, 0, 65}, {0, -65, 65}, {0, 65, 65}, {64, 0, 1}, {64, -1, 0}, {65, 0, 0}, {-65, 0, 0},
		{45, -45, 46}, {45, -46, 45}, {-46, -45, 45}, {5, 64, 64}, {0, 64, -64},
	}
	for _, n := range farIntegers() {
		refused = append(refused, [3]int64{n, 0, 0}, [3]int64{0, n, 0}, [3]int64{0, 0, n}, [3]int64{0, n, n}, [3]int64{n, n, n})
	}
	for _, r := range refused {
		cut, ok := impl.CutOf(onLine(2), ones(2), r[0], r[1], r[2])
		isResult(t, fmt.Sprint("cut ", r), cut, ok, nil)
	}
	cut, ok := impl.CutOf(onLine(2), ones(2), 45, -45, 45)
	isEqual(t, "widest cut at 45", ok && len(cut) == 91, true)
}

// isSkyRefused fails the test unless SkyPower refuses.
func isSkyRefused(t *testing.T, places []impl.Place, weights []complex64, step int64) {
	t.Helper()
	sum, count, ok := impl.SkyPower(places, weights, step)
	isEqual(t, fmt.Sprint("sky refused ", len(weights), step), ok, false)
	isNumber(t, "sum of a sky refused", sum, 0)
	isEqual(t, "count of a sky refused", count, 0)
}

func TestSkyPower(t *testing.T) {
	places, weights := []impl.Place{{}, {X: 33}, {X: 70, Y: 11}}, someWeights(3)
	for step := int64(1); step <= 64; step++ {
		sum, many := 0.0, int64(0)
		for _, d := range allDirections() {
			if d.U%step == 0 && d.V%step == 0 {
				power, _ := impl.PowerAt(places, weights, d)
				sum += float64(power)
				many++
			}
		}
		got, count, ok := impl.SkyPower(places, weights, step)
		isEqual(t, "sky taken", ok, true)
		isNumber(t, fmt.Sprint("sky ", step), got, float32(sum))
		isEqual(t, fmt.Sprint("directions of the sky ", step), count, many)
	}
	for step, want := range map[int64]int64{1: 12853, 32: 13, 33: 9, 45: 9, 46: 5, 63: 5, 64: 5} {
		got, count, ok := impl.SkyPower(places[:1], []complex64{complex(0, 2)}, step)
		isEqual(t, "sky taken", ok, true)
		isEqual(t, fmt.Sprint("directions of the sky ", step), count, want)
		if math.Abs(float64(got)/float64(4*want)-1) > 1e-6 {
			t.Errorf("sky of one element: got %v, want nearly %v", got, 4*want)
		}
	}
	// Sums that are too great for a number are infinities.
	got, _, ok := impl.SkyPower(places[:1], []complex64{1.5e19}, 64)
	isEqual(t, "great sky taken", ok, true)
	isNumber(t, "great sky", got, inf32())
	got, _, ok = impl.SkyPower(places[:1], []complex64{complex(nan32(), 0)}, 64)
	isEqual(t, "sky of not-a-numbers taken", ok, true)
	isNumber(t, "sky of not-a-numbers", got, nan32())
	for _, step := range append(farIntegers(), 0, -1, -64, 65, 128) {
		isSkyRefused(t, places, weights, step)
	}
}

// Promise 4: steered weights have their greatest power where they are steered to.
func TestSteeredWeightsAreGreatestAtTheirDirection(t *testing.T) {
	line, _ := impl.LinePlaces(16, 16)
	grid, _ := impl.GridPlaces(4, 4, 16, 32)
	ring, _ := impl.RingPlaces(4, 64)
	for _, places := range [][]impl.Place{line, grid, ring, {{}, {X: 16, Y: 48}, {Y: -16}}} {
		// All phases at these directions are quarters of turns.
		for _, to := range []impl.Direction{{}, {U: 64}, {V: -64}, {U: -64}} {
			weights, _ := impl.SteeringOf(places, to)
			most, _ := impl.PowerAt(places, weights, to)
			isNumber(t, "greatest power", most, float32(len(places)*len(places)))
			isNowhereGreater(t, places, weights, most)
		}
	}
	for _, to := range []impl.Direction{{U: 3, V: 5}, {U: -20, V: 60}, {U: 45, V: 45}} {
		for _, places := range [][]impl.Place{line, grid, onLine(16), {{X: 5, Y: 9}}, {{X: 77, Y: 4000}, {X: -3000, Y: 999}, {X: 12}}} {
			weights, _ := impl.SteeringOf(places, to)
			most, _ := impl.PowerAt(places, weights, to)
			// Sums of such phases are not exact.
			isNowhereGreater(t, places, weights, most*1.000001)
		}
	}
}

// isNowhereGreater fails the test if any direction has a greater power than most.
func isNowhereGreater(t *testing.T, places []impl.Place, weights []complex64, most float32) {
	t.Helper()
	for _, d := range allDirections() {
		power, ok := impl.PowerAt(places, weights, d)
		if !ok || !(power <= most) {
			t.Fatalf("places %v, weights %v: got %v, %v at %v, want at most %v", places, weights, power, ok, d, most)
		}
	}
}
