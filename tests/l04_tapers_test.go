package tests

import (
	"fmt"
	"math"
	"testing"

	"loop.example/g01181/impl"
)

func TestTapersOfFewElements(t *testing.T) {
	cases := []struct {
		kind int64
		want []float32
	}{
		{impl.TaperEven, []float32{1}},
		{impl.TaperTriangle, []float32{1}},
		{impl.TaperCosine, []float32{1}},
		{impl.TaperBinomial, []float32{1}},
		{impl.TaperEven, []float32{1, 1}},
		{impl.TaperTriangle, []float32{bits32(0x3f2aaaab), bits32(0x3f2aaaab)}},
		{impl.TaperCosine, []float32{0.75, 0.75}},
		{impl.TaperBinomial, []float32{1, 1}},
		{impl.TaperEven, []float32{1, 1, 1}},
		{impl.TaperTriangle, []float32{0.5, 1, 0.5}},
		{impl.TaperCosine, []float32{0.5, 1, 0.5}},
		{impl.TaperBinomial, []float32{0.5, 1, 0.5}},
		{impl.TaperTriangle, []float32{bits32(0x3ecccccd), bits32(0x3f4ccccd), bits32(0x3f4ccccd), bits32(0x3ecccccd)}},
		{impl.TaperBinomial, []float32{bits32(0x3eaaaaab), 1, 1, bits32(0x3eaaaaab)}},
		{impl.TaperBinomial, []float32{bits32(0x3e2aaaab), bits32(0x3f2aaaab), 1, bits32(0x3f2aaaab), bits32(0x3e2aaaab)}},
		{impl.TaperTriangle, []float32{0.25, 0.5, 0.75, 1, 0.75, 0.5, 0.25}},
	}
	for _, c := range cases {
		got, ok := impl.TaperOf(c.kind, int64(len(c.want)))
		isPowers(t, fmt.Sprint("taper ", c.kind, len(c.want)), got, ok, c.want)
	}
}

// pascal returns the numbers of ways to choose each number of some.
func pascal(of int) []int64 {
	row := []int64{1}
	for range of {
		next := append([]int64{1}, row...)
		for k := 1; k < len(row); k++ {
			next[k] += row[k]
		}
		next[len(row)] = 1
		row = next
	}
	return row
}

// Promise 5: tapers of all sizes have the told bits.
func TestTapersToTheBit(t *testing.T) {
	for count := 1; count <= 16; count++ {
		even, triangle, cosine := make([]float32, count), make([]float32, count), make([]float32, count)
		binomial, ways := make([]float32, count), pascal(count-1)
		for k := range count {
			even[k] = 1
			triangle[k] = float32(2*min(k+1, count-k)) / float32(count+1)
			half := real(impl.PhasorOf(float64(k+1)/float64(count+1))) * 0.5
			cosine[k] = 0.5 - half
			binomial[k] = float32(ways[k]) / float32(ways[(count-1)/2])
			library := 0.5 - 0.5*math.Cos(2*math.Pi*float64(k+1)/float64(count+1))
			isNear(t, fmt.Sprint("cosine ", k, count), complex(cosine[k], 0), complex(float32(library), 0))
		}
		for kind, want := range [][]float32{even, triangle, cosine, binomial} {
			got, ok := impl.TaperOf(int64(kind), int64(count))
			isPowers(t, fmt.Sprint("taper ", kind, count), got, ok, want)
		}
	}
	isEqual(t, "most ways", pascal(15)[7], 6435)
}

// No taper is greater than 1 or less than 0, and the middle is the greatest part.
func TestTapersRiseToTheMiddle(t *testing.T) {
	for kind := range int64(4) {
		for count := int64(1); count <= 16; count++ {
			taper, _ := impl.TaperOf(kind, count)
			for k, x := range taper {
				if x <= 0 || x > 1 || k > 0 && 2*k < len(taper) && x < taper[k-1] {
					t.Errorf("taper %d of %d: got %v", kind, count, taper)
				}
			}
		}
	}
}

func TestTapersRefuse(t *testing.T) {
	for _, wrong := range append(farIntegers(), -1, 0, 17, 18, 64) {
		for kind := range int64(4) {
			got, ok := impl.TaperOf(kind, wrong)
			isPowers(t, fmt.Sprint("taper of ", wrong), got, ok, nil)
		}
	}
	for _, wrong := range append(farIntegers(), -1, 4, 5) {
		for _, count := range []int64{-1, 0, 1, 3, 16, 17} {
			got, ok := impl.TaperOf(wrong, count)
			isPowers(t, fmt.Sprint("kind ", wrong), got, ok, nil)
		}
	}
}

func TestSteerWeights(t *testing.T) {
	i := complex64(complex(0, 1))
	two := []impl.Place{{}, {X: 32}}
	cases := []struct {
		places []impl.Place
		d      impl.Direction
		taper  []float32
		want   []complex64
	}{
		{two, impl.Direction{}, []float32{1, 1}, []complex64{1, 1}},
		{two, impl.Direction{U: 32}, []float32{3, 5}, []complex64{3, 5 * i}},
		{two, impl.Direction{U: 64}, []float32{0.5, 2}, []complex64{0.5, -2}},
		{two, impl.Direction{U: -32}, []float32{0, 7}, []complex64{0, complex(0, -7)}},
		{two, impl.Direction{V: 64}, []float32{-1, 4}, []complex64{complex(-1, minusZero()), 4}},
		{two, impl.Direction{}, []float32{minusZero(), nan32()}, []complex64{complex(minusZero(), minusZero()), complex(nan32(), nan32())}},
		{two, impl.Direction{}, []float32{inf32(), -inf32()}, []complex64{complex(inf32(), nan32()), complex(-inf32(), nan32())}},
		{[]impl.Place{{X: -4096, Y: 4096}}, impl.Direction{U: 45, V: -45}, []float32{1}, []complex64{1}},
	}
	for _, c := range cases {
		got, ok := impl.SteerWeights(c.places, c.d, c.taper)
		isWeights(t, fmt.Sprint("steered ", c.places, c.d, c.taper), got, ok, c.want)
	}
	odd, places := oddNumbers(), onLine(16)
	for k, d := range allDirections() {
		if k%61 != 0 {
			continue
		}
		count := 1 + k%16
		phases, _ := impl.SteeringOf(places[:count], d)
		want := make([]complex64, count)
		for n, x := range phases {
			want[n] = complex(real(x)*odd[n], imag(x)*odd[n])
		}
		got, ok := impl.SteerWeights(places[:count], d, odd[:count])
		isWeights(t, fmt.Sprint("steered ", d), got, ok, want)
	}
}

// Promise 5: steered weights receive, from their direction, the sum of their taper.
func TestSteeredWeightsReceiveTheirTaper(t *testing.T) {
	places, _ := impl.RingPlaces(9, 300)
	for kind := range int64(4) {
		taper, _ := impl.TaperOf(kind, 9)
		var sum float32
		for _, x := range taper {
			sum += x
		}
		for k, d := range allDirections() {
			if k%97 != 0 {
				continue
			}
			weights, ok := impl.SteerWeights(places, d, taper)
			isEqual(t, "steered", ok, true)
			got, _ := impl.PatternAt(places, weights, d)
			isNear(t, fmt.Sprint("received from ", d), got, complex(sum, 0))
		}
	}
}

func TestSteerWeightsRefuses(t *testing.T) {
	taper := make([]float32, 20)
	for count := range 20 {
		for many := range 20 {
			got, ok := impl.SteerWeights(onLine(count), impl.Direction{}, taper[:many])
			isEqual(t, fmt.Sprint("steered ", count, many), ok, count == many && count >= 1 && count <= 16)
			isEqual(t, "steered weights", ok, len(got) > 0)
		}
	}
	for _, places := range wrongPlaces() {
		got, ok := impl.SteerWeights(places, impl.Direction{}, make([]float32, len(places)))
		isWeights(t, fmt.Sprint("places ", places), got, ok, nil)
	}
	for _, d := range wrongDirections() {
		got, ok := impl.SteerWeights(onLine(2), d, taper[:2])
		isWeights(t, fmt.Sprint("direction ", d), got, ok, nil)
	}
}

func TestScaleWeights(t *testing.T) {
	odd := oddComplexes()
	for k, by := range oddNumbers() {
		for count := 1; count <= 16; count++ {
			weights := odd[k*count : k*count+count]
			want := make([]complex64, count)
			for i, x := range weights {
				want[i] = complex(real(x)*by, imag(x)*by)
			}
			got, ok := impl.ScaleWeights(weights, by)
			isWeights(t, fmt.Sprint("scaled ", weights, by), got, ok, want)
		}
	}
	got, ok := impl.ScaleWeights([]complex64{complex(1, -2), 3}, -0.5)
	isWeights(t, "scaled", got, ok, []complex64{complex(-0.5, 1), complex(-1.5, minusZero())})
	for _, count := range []int{0, 17, 64, 100} {
		got, ok := impl.ScaleWeights(ones(count), 1)
		isWeights(t, fmt.Sprint("scaled ", count), got, ok, nil)
	}
}

func TestNormWeights(t *testing.T) {
	fifth, huge, tiny := bits32(0x3e4ccccd), float32(math.MaxFloat32), bits32(0x1a3f2e25)
	cases := []struct {
		weights, want []complex64
	}{
		{[]complex64{1}, []complex64{1}},
		{[]complex64{-2}, []complex64{complex(-1, 0)}},
		{[]complex64{3, 4i}, []complex64{complex(3*fifth, 0), complex(0, 4*fifth)}},
		{[]complex64{complex(3, -4)}, []complex64{complex(3*fifth, -4*fifth)}},
		{ones(16), []complex64{0.25, 0.25, 0.25, 0.25, 0.25, 0.25, 0.25, 0.25, 0.25, 0.25, 0.25, 0.25, 0.25, 0.25, 0.25, 0.25}},
		{ones(4), []complex64{0.5, 0.5, 0.5, 0.5}},
		{[]complex64{0, complex(minusZero(), 8)}, []complex64{0, complex(minusZero(), 1)}},
		// The power is an infinity, and 1 divided by it is 0, which is finite.
		{[]complex64{complex(huge, -1), -2}, []complex64{complex(0, minusZero()), complex(minusZero(), 0)}},
		{[]complex64{complex(inf32(), 1)}, []complex64{complex(nan32(), 0)}},
		// The power is the least number greater than 0.
		{[]complex64{complex(tiny, 0)}, []complex64{complex(tiny*(1/bits32(0x1a3504f3)), 0)}},
		{nil, nil},
		{[]complex64{0}, nil},
		{[]complex64{complex(minusZero(), 0), 0}, nil},
		{[]complex64{complex(1e-30, 1e-30)}, nil},
		{[]complex64{1, complex(0, nan32())}, nil},
		{[]complex64{complex(inf32(), nan32())}, nil},
		{ones(17), nil},
		{ones(64), nil},
		{ones(65), nil},
	}
	for _, c := range cases {
		got, ok := impl.NormWeights(c.weights)
		isWeights(t, fmt.Sprint("norm of ", c.weights), got, ok, c.want)
	}
}

// The weights are scaled by a number that is rounded, not divided one by one.
func TestNormWeightsAreScaled(t *testing.T) {
	for count := 1; count <= 16; count++ {
		weights := someWeights(count)
		powers, _ := impl.PowersOf(weights)
		by := 1 / float32(math.Sqrt(float64(powers)))
		want := make([]complex64, count)
		for i, x := range weights {
			want[i] = complex(real(x)*by, imag(x)*by)
		}
		got, ok := impl.NormWeights(weights)
		isWeights(t, fmt.Sprint("norm of ", count), got, ok, want)
		power, _ := impl.PowersOf(got)
		isNear(t, "power of the norm", complex(power, 0), 1)
	}
}

func TestDifferenceWeights(t *testing.T) {
	minus := complex(minusZero(), minusZero())
	cases := []struct {
		weights, want []complex64
	}{
		{[]complex64{1, 2}, []complex64{1, complex(-2, minusZero())}},
		{[]complex64{0, 0}, []complex64{0, minus}},
		{[]complex64{minus, minus}, []complex64{minus, 0}},
		{[]complex64{complex(1, 2), complex(3, -4), complex(-5, 6), complex(7, 8)},
			[]complex64{complex(1, 2), complex(3, -4), complex(5, -6), complex(-7, -8)}},
		{[]complex64{complex(nan32(), inf32()), complex(-inf32(), nan32())},
			[]complex64{complex(nan32(), inf32()), complex(inf32(), nan32())}},
	}
	for _, c := range cases {
		got, ok := impl.DifferenceWeights(c.weights)
		isWeights(t, fmt.Sprint("differences ", c.weights), got, ok, c.want)
	}
	for count := range 40 {
		weights := make([]complex64, count)
		for i := range weights {
			weights[i] = complex(float32(i+1), 2)
		}
		got, ok := impl.DifferenceWeights(weights)
		isEqual(t, fmt.Sprint("differences of ", count), ok, count >= 2 && count <= 16 && count%2 == 0)
		for i, x := range got {
			sign := float32(1)
			if 2*i >= count {
				sign = -1
			}
			isComplex(t, "difference", x, complex(sign*float32(i+1), sign*2))
		}
	}
}

// A difference beam receives nothing from where its halves point.
func TestDifferenceWeightsHaveANull(t *testing.T) {
	line, _ := impl.LinePlaces(8, 32)
	for u := int64(-64); u <= 64; u += 32 {
		steered, _ := impl.SteeringOf(line, impl.Direction{U: u})
		weights, _ := impl.DifferenceWeights(steered)
		power, ok := impl.PowerAt(line, weights, impl.Direction{U: u})
		isEqual(t, "power taken", ok, true)
		isNumber(t, "power of differences", power, 0)
	}
}

func TestWithoutElements(t *testing.T) {
	minus := complex(minusZero(), minusZero())
	weights := []complex64{complex(1, 2), complex(nan32(), inf32()), minus, complex(5, -6)}
	cases := []struct {
		failed []int64
		want   []complex64
	}{
		{nil, weights},
		{[]int64{0}, []complex64{0, weights[1], minus, weights[3]}},
		{[]int64{1}, []complex64{weights[0], 0, minus, weights[3]}},
		{[]int64{2, 3}, []complex64{weights[0], weights[1], 0, 0}},
		{[]int64{0, 1, 2, 3}, []complex64{0, 0, 0, 0}},
		{[]int64{3, 2}, nil},
		{[]int64{1, 1}, nil},
		{[]int64{0, 2, 1}, nil},
		{[]int64{-1}, nil},
		{[]int64{-1, 0}, nil},
		{[]int64{4}, nil},
		{[]int64{0, 4}, nil},
		{[]int64{0, 1, 2, 3, 4}, nil},
	}
	for _, c := range cases {
		got, ok := impl.WithoutElements(weights, c.failed)
		isWeights(t, fmt.Sprint("without ", c.failed), got, ok, c.want)
	}
	for _, wrong := range farIntegers() {
		got, ok := impl.WithoutElements(weights, []int64{wrong})
		isWeights(t, fmt.Sprint("without ", wrong), got, ok, nil)
	}
}

func TestWithoutElementsHasALimit(t *testing.T) {
	for count := range 40 {
		weights := ones(count)
		for _, failed := range [][]int64{nil, {0}, {int64(count) - 1}, {int64(count)}} {
			got, ok := impl.WithoutElements(weights, failed)
			possible := len(failed) == 0 || failed[0] < int64(count)
			isEqual(t, fmt.Sprint("without of ", count, failed), ok, count >= 1 && count <= 16 && possible)
			for i, x := range got {
				want := complex64(1)
				if len(failed) > 0 && int64(i) == failed[0] {
					want = 0
				}
				isComplex(t, "what is left", x, want)
			}
		}
	}
}
