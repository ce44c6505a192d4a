package tests

import (
	"fmt"
	"math"
	"slices"
	"testing"

	"loop.example/g01181/impl"
)

// mendedTold returns mended weights, and nil if the quotient is not finite.
func mendedTold(weights []complex64, failed []int64, phases []complex64) []complex64 {
	left := slices.Clone(weights)
	for _, k := range failed {
		left[k] = 0
	}
	by := impl.QuotientOf(dotTold(phases, weights), dotTold(phases, left))
	for _, part := range []float32{real(by), imag(by)} {
		if isNot(part) || math.Abs(float64(part)) > math.MaxFloat32 {
			return nil
		}
	}
	for k, x := range left {
		left[k] = impl.MulComplex(x, by)
	}
	return left
}

// isMended fails the test unless MendWeights returns what is told.
func isMended(t *testing.T, weights []complex64, failed []int64, places []impl.Place, d impl.Direction) {
	t.Helper()
	phases, _ := impl.SteeringOf(places, d)
	got, ok := impl.MendWeights(weights, failed, places, d)
	isWeights(t, fmt.Sprint("mended ", weights, failed, places, d), got, ok, mendedTold(weights, failed, phases))
}

func TestMendWeights(t *testing.T) {
	i := complex64(complex(0, 1))
	line, _ := impl.LinePlaces(2, 32)
	four, _ := impl.LinePlaces(4, 32)
	cases := []struct {
		weights []complex64
		failed  []int64
		places  []impl.Place
		u       int64
		want    []complex64
	}{
		{ones(2), []int64{1}, line, 0, []complex64{2, 0}},
		{ones(2), []int64{0}, line, 0, []complex64{0, 2}},
		{ones(2), nil, line, 0, ones(2)},
		{ones(2), []int64{}, line, 5, ones(2)},
		{ones(2), []int64{0, 1}, line, 0, nil},
		{ones(4), []int64{0, 3}, four, 0, []complex64{0, 2, 2, 0}},
		{ones(4), []int64{1, 2, 3}, four, 0, []complex64{4, 0, 0, 0}},
		// The phases at U 32 are 1, i, -1 and -i.
		{[]complex64{1, i}, []int64{1}, line, 32, []complex64{2, 0}},
		{[]complex64{1, 1}, []int64{1}, line, 32, []complex64{complex(1, -1), 0}},
		{[]complex64{1, 1}, []int64{0}, line, 32, []complex64{0, complex(1, 1)}},
		{[]complex64{1, complex(0, -1)}, []int64{1}, line, 32, []complex64{0, 0}},
		// Nothing is received, so that all weights vanish, or nothing can be mended.
		{[]complex64{1, -1}, []int64{1}, line, 0, []complex64{0, 0}},
		{[]complex64{1, -1}, nil, line, 0, nil},
		{[]complex64{1, 2, -2, 5}, []int64{0, 3}, four, 0, nil},
		{[]complex64{0, 0}, nil, line, 0, nil},
		{[]complex64{0, 1}, []int64{1}, line, 0, nil},
		{[]complex64{0, 1}, []int64{0}, line, 0, []complex64{0, 1}},
	}
	for _, c := range cases {
		d := impl.Direction{U: c.u}
		got, ok := impl.MendWeights(c.weights, c.failed, c.places, d)
		isWeights(t, fmt.Sprint("mended ", c.weights, c.failed, d), got, ok, c.want)
		isMended(t, c.weights, c.failed, c.places, d)
	}
}

// Both parts of the quotient are finite, whatever the weights are.
func TestMendedQuotientsAreFinite(t *testing.T) {
	wide, none := complex64(complex(inf32(), 0)), complex64(complex(nan32(), 0))
	line, _ := impl.LinePlaces(3, 32)
	cases := []struct {
		weights []complex64
		want    []complex64
	}{
		{[]complex64{3e38, 1, 0}, []complex64{0, 3e38, 0}},
		{[]complex64{3e38, 0.5, 0}, nil},
		{[]complex64{-3e38, 0.5, 0}, nil},
		{[]complex64{3e38, 0, 0.5}, nil},
		{[]complex64{complex(0, 3e38), 1, 0}, []complex64{0, complex(1, 3e38), 0}},
		{[]complex64{complex(0, 3e38), 0.5, 0}, nil},
		{[]complex64{complex(0, -3e38), 0.5, 0}, nil},
		{[]complex64{complex(1, 3e38), complex(0, 0.5), 0}, nil},
		// The quotient is finite, but its products need not be.
		{[]complex64{3e38, 2, -1}, []complex64{0, complex(inf32(), 0), -3e38}},
		{[]complex64{wide, 1, 1}, nil},
		{[]complex64{none, 1, 1}, nil},
		{[]complex64{1, wide, 1}, nil},
		{[]complex64{1, 1, none}, nil},
		{[]complex64{complex(1, nan32()), 1, 1}, nil},
		{[]complex64{3e38, 3e38, 1}, nil},
	}
	for _, c := range cases {
		got, ok := impl.MendWeights(c.weights, []int64{0}, line, impl.Direction{})
		isWeights(t, fmt.Sprint("mended ", c.weights), got, ok, c.want)
	}
	odd := oddComplexes()
	for k, x := range odd {
		weights := drawn(uint32(k), 5)
		weights[k%5] = x
		for failed := range int64(5) {
			isMended(t, weights, []int64{failed}, onLine(5), impl.Direction{U: int64(k % 60), V: 11})
		}
		isMended(t, []complex64{x, odd[k*7%len(odd)], odd[k*5%len(odd)]}, []int64{int64(k % 3)}, onLine(3), impl.Direction{U: 9})
	}
}

// eachFailed calls visit with some sets of the indices of so many elements.
func eachFailed(size int, visit func(failed []int64)) {
	for _, picked := range []int{0, 1, 2, 5, 10, 77, 1 << 15, 1<<16 - 1, 0x5555, 0xaaaa, 0x7f80} {
		var failed []int64
		for k := range size {
			if picked>>k&1 != 0 {
				failed = append(failed, int64(k))
			}
		}
		visit(failed)
	}
}

// Promise 9: mended weights have the told bits, use no failed element, and receive
// from their direction what the first ones did.
func TestMendedWeightsUseNoFailedElement(t *testing.T) {
	mended := 0
	for size := 1; size <= 16; size++ {
		for seed := range uint32(12) {
			weights := drawn(seed, size)
			for _, places := range scanPlaces(size) {
				d := impl.Direction{U: int64(seed)*11 - 60, V: int64(seed) - 4}
				before, _ := impl.PatternAt(places, weights, d)
				eachFailed(size, func(failed []int64) {
					isMended(t, weights, failed, places, d)
					got, ok := impl.MendWeights(weights, failed, places, d)
					isEqual(t, "mended if any is left", ok, len(failed) < size)
					if !ok {
						return
					}
					for _, k := range failed {
						isEqual(t, fmt.Sprint("failed ", k, got), got[k], 0)
					}
					behind, _ := impl.PatternAt(places, got, d)
					isEqual(t, fmt.Sprint("received ", before, behind, got), longOf(behind-before) <= 1e-5*(longest(got)+1)*float64(size), true)
					mended++
				})
			}
		}
	}
	isEqual(t, "mended", mended > 1000, true)
}

func TestMendWeightsRefuses(t *testing.T) {
	refuse := func(weights []complex64, failed []int64, places []impl.Place, d impl.Direction) {
		t.Helper()
		got, ok := impl.MendWeights(weights, failed, places, d)
		isWeights(t, fmt.Sprint("mended ", weights, failed, places, d), got, ok, nil)
	}
	for _, places := range wrongPlaces() {
		refuse(ones(len(places)), nil, places, impl.Direction{})
	}
	for _, d := range wrongDirections() {
		refuse(ones(3), nil, onLine(3), d)
	}
	for count := range 20 {
		for other := range 20 {
			if count != other || count < 1 || count > 16 {
				refuse(ones(count), nil, onLine(other), impl.Direction{})
			}
		}
	}
	for _, failed := range [][]int64{{-1}, {3}, {-1, 0}, {0, 3}, {1, 0}, {1, 1}, {0, 2, 1}, {0, 1, 2, 3}, {0, 0, 1}} {
		refuse(ones(3), failed, onLine(3), impl.Direction{})
	}
	for _, n := range farIntegers() {
		refuse(ones(3), []int64{n}, onLine(3), impl.Direction{})
		refuse(ones(3), []int64{0, n}, onLine(3), impl.Direction{})
	}
	got, ok := impl.MendWeights(ones(16), upTo(15), onLine(16), impl.Direction{})
	isEqual(t, "one of 16 left", ok && got[15] == 16, true)
	refuse(ones(16), upTo(16), onLine(16), impl.Direction{})
	refuse(ones(16), upTo(17), onLine(16), impl.Direction{})
}

// failedTold returns the elements with less than a share of the greatest power.
func failedTold(shots [][]complex64, share float32) []int64 {
	var sums []float32
	for k := range shots[0] {
		sums = append(sums, powersTold(columnAt(shots, k)))
	}
	var greatest float32
	for _, sum := range sums {
		if !isNot(sum) && sum > greatest {
			greatest = sum
		}
	}
	least, failed := float32(share*greatest), []int64{}
	for k, sum := range sums {
		if sum < least {
			failed = append(failed, int64(k))
		}
	}
	return failed
}

func TestFailedElements(t *testing.T) {
	none, wide := complex64(complex(nan32(), 0)), complex64(complex(0, -inf32()))
	third := float32(1) / 3
	cases := []struct {
		shots [][]complex64
		share float32
		want  []int64
	}{
		{[][]complex64{{2, 1}, {2, 1}}, 0.5, []int64{1}},
		{[][]complex64{{2, 1}, {2, 1}}, 0.25, []int64{}},
		{[][]complex64{{2, 1}, {2, 1}}, math.Nextafter32(0.25, 1), []int64{1}},
		{[][]complex64{{2, 1}, {1, 2}}, 1, []int64{}},
		{[][]complex64{{1, 0}, {0, complex(2, 1)}, {1, 0}}, 0.5, []int64{0}},
		{[][]complex64{{1, 2, 3}}, 1, []int64{0, 1}},
		{[][]complex64{{1, 2, 3}}, 2, []int64{0, 1, 2}},
		// A share that is 0, less, or a not-a-number, lets no element fail.
		{[][]complex64{{0, 2, 3}}, 0, []int64{}},
		{[][]complex64{{0, 2, 3}}, minusZero(), []int64{}},
		{[][]complex64{{0, 2, 3}}, -1, []int64{}},
		{[][]complex64{{0, 2, 3}}, nan32(), []int64{}},
		{[][]complex64{{0, 2, 3}}, -inf32(), []int64{}},
		{[][]complex64{{0, 2, 3}}, inf32(), []int64{0, 1, 2}},
		{[][]complex64{{0, 2, 3}}, math.SmallestNonzeroFloat32, []int64{0}},
		{[][]complex64{{0, 0}}, 1, []int64{}},
		{[][]complex64{{0, 0}}, inf32(), []int64{}},
		// The product is one of 32-bit numbers: it is 1, neither more nor less.
		{[][]complex64{{1, complex(1, 0)}, {0, 1}, {0, 1}}, third, []int64{}},
		{[][]complex64{{1, 1}, {0, 1}, {0, 1}}, math.Nextafter32(third, 1), []int64{0}},
		// A not-a-number is neither the greatest sum, nor less than a share of it.
		{[][]complex64{{none, 2, 9}}, 0.5, []int64{1}},
		{[][]complex64{{2, none, 9}, {9, 0, none}}, 2, []int64{0}},
		{[][]complex64{{none, none}}, 1, []int64{}},
		{[][]complex64{{none, none}}, inf32(), []int64{}},
		{[][]complex64{{none, 0}}, 1, []int64{}},
		{[][]complex64{{1, wide, none}}, 0.5, []int64{0}},
		{[][]complex64{{1, wide, none}}, 0, []int64{}},
		{[][]complex64{{1, wide, 3e38}}, 1, []int64{0}},
		{[][]complex64{{1, wide, 3e18}}, -1, []int64{}},
	}
	for k, c := range cases {
		got, ok := impl.FailedElements(c.shots, c.share)
		isResult(t, fmt.Sprint("failed ", k, c.shots, c.share), got, ok, c.want)
	}
}

// Elements fail as told for all numbers of shots and elements, and for any numbers.
func TestFailedElementsOfAnyShots(t *testing.T) {
	odd, numbers := oddComplexes(), oddNumbers()
	for size := 1; size <= 16; size++ {
		for _, count := range []int{1, 2, 5, 63, 64} {
			for seed := range uint32(20) {
				shots := drawnMatrix(seed, count, size).Rows
				share := float32(seed) / 15
				what := fmt.Sprint("failed of ", size, count, seed)
				got, ok := impl.FailedElements(shots, share)
				isResult(t, what, got, ok, failedTold(shots, share))
				shots[int(seed)%count][int(seed)%size] = odd[(int(seed)*size*count*7)%len(odd)]
				for _, share := range append(numbers, share) {
					got, ok := impl.FailedElements(shots, share)
					isResult(t, what, got, ok, failedTold(shots, share))
				}
			}
		}
	}
}

// Elements that receive little are found, and mended.
func TestFailedElementsAreFoundAndMended(t *testing.T) {
	line, d := onLine(16), impl.Direction{U: 20, V: 3}
	phases, _ := impl.SteeringOf(line, d)
	eachFailed(16, func(failed []int64) {
		shots, ok := impl.SnapshotsOf(line, []impl.Source{{From: d, Gain: 1, Seed: 4}}, 0.1, 8, 0, 40)
		isEqual(t, "snapshots taken", ok, true)
		for _, shot := range shots {
			for _, k := range failed {
				shot[k] *= 0.01
			}
		}
		found, ok := impl.FailedElements(shots, 0.3)
		if len(failed) == 16 {
			isEqual(t, "none fails if all do", ok && len(found) == 0, true)
			return
		}
		isResult(t, "found", found, ok, append([]int64{}, failed...))
		mended, ok := impl.MendWeights(phases, found, line, d)
		isEqual(t, "mended", ok, true)
		pattern, _ := impl.PatternAt(line, mended, d)
		isNear(t, "pattern of mended weights", pattern, 16)
	})
}

func TestFailedElementsRefuses(t *testing.T) {
	for _, shots := range wrongShots() {
		for _, share := range []float32{0, 0.5, 1, nan32()} {
			got, ok := impl.FailedElements(shots, share)
			isResult(t, fmt.Sprint("failed ", shots), got, ok, nil)
		}
	}
}
