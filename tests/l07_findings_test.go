package tests

import (
	"fmt"
	"math"
	"slices"
	"testing"

	"loop.example/g01181/impl"
)

// isCount fails the test unless CountSources returns want.
func isCount(t *testing.T, values []float32, ratio float32, want int64) {
	t.Helper()
	got, ok := impl.CountSources(values, ratio)
	isEqual(t, fmt.Sprint("sources taken ", values, ratio), ok, true)
	isEqual(t, fmt.Sprint("sources ", values, ratio), got, want)
}

func TestCountSources(t *testing.T) {
	minus, none, great := minusZero(), nan32(), inf32()
	above := math.Nextafter32(32, 40)
	cases := []struct {
		values []float32
		ratio  float32
		want   int64
	}{
		{[]float32{9, 8, 1}, 4, 2},
		{[]float32{9, 8, 1}, 9, 0},
		{[]float32{9, 2, 1}, 4, 1},
		// The greatest number counts, also where a less one would do.
		{[]float32{9, 1, 9, 1}, 4, 3}, {[]float32{9, 1, 1, 1}, 4, 1}, {[]float32{100, 10, 1}, 4, 2}, {[]float32{8, 1, 1, 1, 1, 1, 1, 0}, 2, 7},
		// One that is equal to the product is not greater.
		{[]float32{32, 8}, 4, 0}, {[]float32{above, 8}, 4, 1}, {[]float32{5, 5}, 1, 0}, {[]float32{5, 6}, 1, 0}, {[]float32{6, 5}, 1, 1},
		{[]float32{7}, 1, 0}, {[]float32{none}, 3, 0}, {[]float32{great}, math.MaxFloat32, 0},
		{[]float32{0, 0}, 4, 0}, {[]float32{0, minus}, 4, 0}, {[]float32{minus, 0}, 4, 0}, {[]float32{1e-45, 0}, 4, 1}, {[]float32{1, minus}, math.MaxFloat32, 1},
		{[]float32{-1, -5}, 4, 1}, {[]float32{-4, -1}, 4, 0}, {[]float32{-1, -1}, 2, 1}, {[]float32{0, -1}, 2, 1}, {[]float32{-1, 0}, 2, 0},
		{[]float32{none, 1}, 2, 0}, {[]float32{1, none}, 2, 0}, {[]float32{9, 1, none, 9, none}, 2, 1}, {[]float32{none, 9, 1}, 2, 2},
		{[]float32{great, great}, 1, 0}, {[]float32{great, 1}, 2, 1}, {[]float32{1, -great}, 2, 1}, {[]float32{1, great}, 2, 0},
		// The product of 32-bit numbers can be an infinity.
		{[]float32{math.MaxFloat32, 2}, math.MaxFloat32, 0}, {[]float32{great, 2}, math.MaxFloat32, 0}, {[]float32{math.MaxFloat32, 1}, math.MaxFloat32, 0},
		{[]float32{math.MaxFloat32, 0.5}, math.MaxFloat32, 1},
	}
	for _, c := range cases {
		isCount(t, c.values, c.ratio, c.want)
	}
}

// Where the product of ratio and value is rounded up, what is equal to it is greater
// than the exact product, and not counted; where it is rounded down, it is less.
func TestProductsOfRatiosAreRounded(t *testing.T) {
	up, down := 0, 0
	for _, x := range drawn(5, 400) {
		ratio, value := 1+abs32(real(x)), abs32(imag(x))+0.01
		product := float32(ratio * value)
		switch exact := float64(ratio) * float64(value); {
		case float64(product) > exact:
			up++
		case float64(product) < exact:
			down++
		}
		isCount(t, []float32{product, value}, ratio, 0)
		isCount(t, []float32{math.Nextafter32(product, 0), value}, ratio, 0)
		isCount(t, []float32{math.Nextafter32(product, inf32()), value}, ratio, 1)
	}
	isEqual(t, "rounded in both ways", up > 50 && down > 50, true)
}

// abs32 returns the absolute value.
func abs32(x float32) float32 { return float32(math.Abs(float64(x))) }

// Promise 8: all lists of a few kinds of values have as many sources as told.
func TestCountsOfShortLists(t *testing.T) {
	for _, values := range append(shortCuts(5), []float32{8, 7, 6, 5, 4, 3, 2, 1}, []float32{1, 2, 3, 4, 5, 6, 7, 8}) {
		for _, ratio := range []float32{1, 2.5, 1e38} {
			want := int64(0)
			for k := 1; k < len(values); k++ {
				product := ratio * values[k]
				if values[k-1] > product {
					want = int64(k)
				}
			}
			isCount(t, values, ratio, want)
		}
	}
}

func TestCountSourcesRefuses(t *testing.T) {
	for _, ratio := range append(oddNumbers(), math.Nextafter32(1, 0), math.Nextafter32(1, 2), 2, 1e38) {
		for count := range 20 {
			got, ok := impl.CountSources(make([]float32, count), ratio)
			isEqual(t, fmt.Sprint("sources ", count, ratio), ok, count >= 1 && count <= 8 && ratio >= 1 && ratio <= math.MaxFloat32)
			isEqual(t, "no sources", got, 0)
		}
	}
	for _, ratio := range []float32{nan32(), inf32(), -inf32(), 0, -1, -2, 0.5, math.Nextafter32(1, 0), math.SmallestNonzeroFloat32} {
		got, ok := impl.CountSources([]float32{9, 1}, ratio)
		isEqual(t, fmt.Sprint("ratio ", ratio), ok, false)
		isEqual(t, "no sources", got, 0)
	}
	for _, count := range []int{0, 9, 10, 64, 1000} {
		got, ok := impl.CountSources(slices.Repeat([]float32{9, 1}, count)[:count], 2)
		isEqual(t, fmt.Sprint("values ", count), ok, false)
		isEqual(t, "no sources", got, 0)
	}
}

// strongTold returns the strongest lobes, each of which is taken out of those that
// are left.
func strongTold(cut []float32, count int) []int64 {
	left := firstsOf(cut, func(x, y float32) bool { return x > y })
	strong := []int64{}
	for len(left) > 0 && len(strong) < count {
		best := 0
		for i, at := range left {
			if cut[at] > cut[left[best]] {
				best = i
			}
		}
		strong = append(strong, left[best])
		left = slices.Delete(left, best, best+1)
	}
	slices.Sort(strong)
	return strong
}

func TestStrongLobes(t *testing.T) {
	minus, none, great := minusZero(), nan32(), inf32()
	cases := []struct {
		cut   []float32
		count int64
		want  []int64
	}{
		{[]float32{1, 3, 3, 2, 5}, 1, []int64{4}},
		{[]float32{1, 3, 3, 2, 5}, 2, []int64{1, 4}},
		// There can be fewer lobes than asked, and none are asked.
		{[]float32{1, 3, 3, 2, 5}, 3, []int64{1, 4}}, {[]float32{1, 3, 3, 2, 5}, 129, []int64{1, 4}}, {[]float32{1, 3, 3, 2, 5}, 0, []int64{}},
		{[]float32{2}, 1, []int64{0}}, {[]float32{2}, 0, []int64{}}, {[]float32{none, none}, 3, []int64{}},
		// The set is increasing, whichever lobe is greater.
		{[]float32{9, 1, 5, 1, 7}, 2, []int64{0, 4}}, {[]float32{5, 1, 9, 1, 7}, 2, []int64{2, 4}}, {[]float32{7, 1, 9, 1, 5}, 2, []int64{0, 2}},
		// Of equal ones, the first ones are taken.
		{[]float32{4, 1, 4, 1, 4}, 1, []int64{0}}, {[]float32{4, 1, 4, 1, 4}, 2, []int64{0, 2}}, {[]float32{4, 1, 5, 1, 4}, 2, []int64{0, 2}},
		{[]float32{4, 1, 4, 1, 5}, 2, []int64{0, 4}}, {[]float32{4, 4, 1, 4, 4}, 1, []int64{0}},
		{[]float32{minus, -1, 0}, 1, []int64{0}}, {[]float32{0, -1, minus}, 1, []int64{0}}, {[]float32{minus, -1, 0, -1, 0}, 2, []int64{0, 2}},
		{[]float32{great, 1, great}, 1, []int64{0}}, {[]float32{3, 1, great}, 1, []int64{2}}, {[]float32{-great, none, 3}, 2, []int64{}},
		{[]float32{none, 3}, 2, []int64{}}, {[]float32{-great, -5, -great, none}, 2, []int64{1}},
		{[]float32{-5, -6, -4, -7, -5}, 2, []int64{0, 2}},
	}
	for _, c := range cases {
		got, ok := impl.StrongLobes(c.cut, c.count)
		isResult(t, fmt.Sprint("strong lobes ", c.cut, c.count), got, ok, c.want)
	}
	for _, cut := range shortCuts(5) {
		for count := range 4 {
			got, ok := impl.StrongLobes(cut, int64(count))
			isResult(t, fmt.Sprint("strong lobes ", cut, count), got, ok, strongTold(cut, count))
		}
	}
}

// Cuts with many lobes, at both ends, too, have the strongest ones for all counts.
func TestStrongLobesOfLongCuts(t *testing.T) {
	alternating := slices.Repeat([]float32{3, 1}, 65)[:129]
	var drawnCut, rising []float32
	for i, x := range drawn(8, 129) {
		drawnCut = append(drawnCut, real(x))
		rising = append(rising, float32(i%2*1000-i))
	}
	many, _ := impl.LobesOf(alternating)
	isEqual(t, "most lobes", len(many), 65)
	for _, cut := range [][]float32{alternating, drawnCut, rising, longCut()} {
		for count := range 130 {
			got, ok := impl.StrongLobes(cut, int64(count))
			isResult(t, fmt.Sprint("strong lobes ", count), got, ok, strongTold(cut, count))
		}
	}
}

func TestStrongLobesRefuses(t *testing.T) {
	for _, count := range append(farIntegers(), -129, -2, -1, 130, 131, 1000) {
		for _, cut := range [][]float32{{1}, {1, 3, 3, 2, 5}, longCut()} {
			got, ok := impl.StrongLobes(cut, count)
			isResult(t, fmt.Sprint("strong lobes ", count), got, ok, nil)
		}
	}
	for _, cut := range wrongCuts() {
		for _, count := range []int64{0, 1, 129} {
			got, ok := impl.StrongLobes(cut, count)
			isResult(t, fmt.Sprint("strong lobes of ", len(cut)), got, ok, nil)
		}
	}
}

func TestSlopeOf(t *testing.T) {
	i, none := complex64(complex(0, 1)), nan32()
	cases := []struct {
		sum, difference complex64
		want            float32
	}{
		{4, complex(2, 1), 0.25}, {complex(2, 1), 4, -0.8}, {1, i, 1}, {i, 1, -1}, {i, i, 0}, {2 * i, -3, 1.5}, {complex(1, 1), complex(0, 6), 3},
		{1, 0, 0}, {-1, 0, minusZero()}, {0, 0, none}, {0, 1, none}, {0, complex(0, 2), none}, {complex(none, 0), 1, none}, {1, complex(inf32(), 0), none},
		{complex(inf32(), 0), 1, none},
	}
	for _, c := range cases {
		isNumber(t, fmt.Sprint("slope ", c.sum, c.difference), impl.SlopeOf(c.sum, c.difference), c.want)
	}
	odd := oddComplexes()
	for k, x := range odd {
		y := odd[k*7%len(odd)]
		isNumber(t, fmt.Sprint("slope ", x, y), impl.SlopeOf(x, y), imag(impl.QuotientOf(y, x)))
	}
	for k, x := range drawn(4, 300) {
		y := drawn(uint32(k), 1)[0]
		isNumber(t, fmt.Sprint("slope ", x, y), impl.SlopeOf(x, y), imag(impl.QuotientOf(y, x)))
	}
}

// Between both ends of the main lobe, the slope of the difference of two halves only
// grows or falls.
func TestSlopesGrowWithAngles(t *testing.T) {
	for _, count := range []int64{2, 4, 8} {
		line, _ := impl.LinePlaces(count, 32)
		difference, _ := impl.DifferenceWeights(ones(int(count)))
		last := int64(128/count) - 4
		var before float32
		for u := -last; u <= last; u++ {
			whole, _ := impl.PatternAt(line, ones(int(count)), impl.Direction{U: u})
			part, _ := impl.PatternAt(line, difference, impl.Direction{U: u})
			slope := impl.SlopeOf(whole, part)
			isEqual(t, fmt.Sprint("slopes ", count, u, before, slope), u == -last || slope < before, true)
			isEqual(t, fmt.Sprint("sign of the slope ", slope, u), (slope > 0) == (u < 0), true)
			before = slope
		}
	}
}
