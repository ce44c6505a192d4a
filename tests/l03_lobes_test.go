package tests

import (
	"fmt"
	"math"
	"slices"
	"testing"

	"loop.example/g01181/impl"
)

// isNot reports whether x is a not-a-number.
func isNot(x float32) bool { return x != x }

// shortCuts returns all cuts with up to longest numbers of a few kinds.
func shortCuts(longest int) [][]float32 {
	var cuts [][]float32
	last := [][]float32{{}}
	for range longest {
		var next [][]float32
		for _, cut := range last {
			for _, x := range []float32{0, minusZero(), 1, 2.5, -inf32(), nan32()} {
				next = append(next, append(slices.Clone(cut), x))
			}
		}
		cuts = append(cuts, next...)
		last = next
	}
	return cuts
}

// wrongCuts returns lists that are too short or too long for cuts.
func wrongCuts() [][]float32 {
	return [][]float32{nil, {}, slices.Repeat([]float32{1, 3}, 65), slices.Repeat([]float32{1, 3}, 500)}
}

// longCut returns a cut with the greatest length, in which powers come and go.
func longCut() []float32 {
	cut := make([]float32, 129)
	for i := range cut {
		cut[i] = float32(i * i * 7 % 23 / 2)
	}
	return cut
}

func TestPeakOf(t *testing.T) {
	cases := []struct {
		cut  []float32
		want int64
	}{
		{[]float32{1, 3, 3, 2, 5}, 4},
		{[]float32{1, 3, 3, 2}, 1},
		{[]float32{7}, 0},
		{[]float32{0, minusZero()}, 0},
		{[]float32{minusZero(), 0}, 0},
		{[]float32{-2, -1, -3}, 1},
		{[]float32{nan32(), -inf32()}, 1},
		{[]float32{nan32(), nan32(), 3, nan32(), 3, 2}, 2},
		{[]float32{2, nan32(), 3}, 2},
		{[]float32{inf32(), nan32(), inf32()}, 0},
		{append(make([]float32, 128), 1), 128},
	}
	for _, c := range cases {
		got, ok := impl.PeakOf(c.cut)
		isEqual(t, fmt.Sprint("peak taken ", c.cut), ok, true)
		isEqual(t, fmt.Sprint("peak ", c.cut), got, c.want)
	}
	refused := append(wrongCuts(), []float32{nan32()}, []float32{nan32(), bits32(0xffc00001), nan32()})
	for _, cut := range refused {
		got, ok := impl.PeakOf(cut)
		isEqual(t, fmt.Sprint("peak refused ", cut), ok, false)
		isEqual(t, "peak refused", got, 0)
	}
}

// Promise 4: the peak is the first index no other number is greater than.
func TestPeaksOfShortCuts(t *testing.T) {
	for _, cut := range append(shortCuts(5), longCut()) {
		want := slices.IndexFunc(cut, func(x float32) bool {
			return !isNot(x) && !slices.ContainsFunc(cut, func(y float32) bool { return y > x })
		})
		got, ok := impl.PeakOf(cut)
		if ok != (want >= 0) || got != int64(max(want, 0)) {
			t.Fatalf("peak of %v: got %d, %v, want %d", cut, got, ok, want)
		}
	}
}

func TestLobesAndDips(t *testing.T) {
	nan, inf := nan32(), inf32()
	cases := []struct {
		cut         []float32
		lobes, dips []int64
	}{
		{[]float32{1, 3, 3, 2, 5}, []int64{1, 4}, []int64{0, 3}},
		{[]float32{4}, []int64{0}, []int64{0}},
		{[]float32{4, 4, 4}, []int64{0}, []int64{0}},
		{[]float32{1, 2}, []int64{1}, []int64{0}},
		{[]float32{2, 1}, []int64{0}, []int64{1}},
		{[]float32{2, 2, 1, 1}, []int64{0}, []int64{2}},
		{[]float32{1, 2, 2, 3, 3, 2, 2, 1}, []int64{3}, []int64{0, 7}},
		{[]float32{3, 1, 1, 2, 1, 1}, []int64{0, 3}, []int64{1, 4}},
		{[]float32{0, minusZero()}, []int64{0}, []int64{0}},
		{[]float32{1, minusZero(), 0, minusZero(), 1}, []int64{0, 4}, []int64{1}},
		{[]float32{-1, minusZero(), 0, -1}, []int64{1}, []int64{0, 3}},
		{[]float32{nan}, []int64{}, []int64{}},
		{[]float32{nan, nan}, []int64{}, []int64{}},
		{[]float32{nan, 1}, []int64{}, []int64{}},
		{[]float32{1, nan}, []int64{}, []int64{}},
		{[]float32{1, nan, 1}, []int64{}, []int64{}},
		{[]float32{1, 2, nan, 2, 1}, []int64{}, []int64{0, 4}},
		{[]float32{2, 1, 1, nan, 1, 1, 2}, []int64{0, 6}, []int64{}},
		{[]float32{nan, 1, 2, 1, nan}, []int64{2}, []int64{}},
		{[]float32{nan, 2, 1, 2, nan}, []int64{}, []int64{2}},
		{[]float32{1, 2, 2, nan, 2, 2, 1}, []int64{}, []int64{0, 6}},
		{[]float32{-inf, inf, inf, -inf}, []int64{1}, []int64{0, 3}},
	}
	for _, c := range cases {
		got, ok := impl.LobesOf(c.cut)
		isResult(t, fmt.Sprint("lobes ", c.cut), got, ok, c.lobes)
		got, ok = impl.DipsOf(c.cut)
		isResult(t, fmt.Sprint("dips ", c.cut), got, ok, c.dips)
	}
	for _, cut := range wrongCuts() {
		got, ok := impl.LobesOf(cut)
		isResult(t, fmt.Sprint("lobes refused ", len(cut)), got, ok, nil)
		got, ok = impl.DipsOf(cut)
		isResult(t, fmt.Sprint("dips refused ", len(cut)), got, ok, nil)
	}
}

// firstsOf returns the first indices of the runs that are beyond what is around.
func firstsOf(cut []float32, beyond func(x, y float32) bool) []int64 {
	firsts := []int64{}
	for first, x := range cut {
		last := first
		for last+1 < len(cut) && cut[last+1] == x {
			last++
		}
		if isNot(x) || first > 0 && !beyond(x, cut[first-1]) || last+1 < len(cut) && !beyond(x, cut[last+1]) {
			continue
		}
		firsts = append(firsts, int64(first))
	}
	return firsts
}

// Promise 4: lobes and dips are as told, for all short cuts.
func TestLobesAndDipsOfShortCuts(t *testing.T) {
	for _, cut := range append(shortCuts(5), longCut()) {
		got, ok := impl.LobesOf(cut)
		isResult(t, fmt.Sprint("lobes ", cut), got, ok, firstsOf(cut, func(x, y float32) bool { return x > y }))
		got, ok = impl.DipsOf(cut)
		isResult(t, fmt.Sprint("dips ", cut), got, ok, firstsOf(cut, func(x, y float32) bool { return x < y }))
	}
}

// isRange fails the test unless a call has succeeded with want, or has failed
// with zeros where want is nil.
func isRange(t *testing.T, what string, low, high int64, ok bool, want []int64) {
	t.Helper()
	if want == nil {
		isEqual(t, what+" refused", [3]any{low, high, ok}, [3]any{int64(0), int64(0), false})
		return
	}
	isEqual(t, what, [3]any{low, high, ok}, [3]any{want[0], want[1], true})
}

func TestWidthOf(t *testing.T) {
	nan, inf, least := nan32(), inf32(), float32(math.SmallestNonzeroFloat32)
	cases := []struct {
		cut  []float32
		at   int64
		want []int64
	}{
		{[]float32{1, 3, 3, 2, 5}, 1, []int64{1, 4}},
		{[]float32{1, 3, 3, 2, 5}, 4, []int64{4, 4}},
		{[]float32{1, 3, 3, 2, 5}, 0, []int64{0, 4}},
		{[]float32{2, 4, 2}, 1, []int64{0, 2}},
		{[]float32{1.9999999, 4, 9, 2}, 1, []int64{1, 3}},
		{[]float32{9, 1, 4, 1, 9}, 2, []int64{2, 2}},
		{[]float32{5}, 0, []int64{0, 0}},
		{[]float32{0, minusZero(), 0}, 1, []int64{0, 2}},
		{[]float32{-1, 0, 1}, 1, []int64{1, 2}},
		{[]float32{3, -1, 3}, 1, nil},
		{[]float32{3, -1, 3}, 0, []int64{0, 0}},
		{[]float32{3, nan, 3}, 0, []int64{0, 0}},
		{[]float32{3, nan, 3}, 1, nil},
		{[]float32{3, nan, 3}, 2, []int64{2, 2}},
		{[]float32{nan}, 0, nil},
		{[]float32{inf, 3, inf, inf}, 2, []int64{2, 3}},
		{[]float32{inf, 3, inf, inf}, 1, []int64{0, 3}},
		// An infinity with a sign is not less than half of itself.
		{[]float32{nan, -3, -inf, 2}, 2, []int64{1, 3}},
		// Half of the least number is rounded to 0, and that of three times it up.
		{[]float32{0, least, -least}, 1, []int64{0, 1}},
		{[]float32{0, -least}, 1, nil},
		{[]float32{least, 3 * least, 2 * least}, 1, []int64{1, 2}},
		{[]float32{1}, 1, nil},
		{[]float32{1}, -1, nil},
		{append(make([]float32, 128), 1), 128, []int64{128, 128}},
		{append(make([]float32, 128), 1), 129, nil},
		{append([]float32{1}, make([]float32, 128)...), 0, []int64{0, 0}},
	}
	for _, c := range cases {
		low, high, ok := impl.WidthOf(c.cut, c.at)
		isRange(t, fmt.Sprint("width ", c.cut, c.at), low, high, ok, c.want)
	}
}

func TestMainLobe(t *testing.T) {
	nan, inf := nan32(), inf32()
	cases := []struct {
		cut  []float32
		at   int64
		want []int64
	}{
		{[]float32{1, 3, 3, 2, 5}, 1, []int64{0, 3}},
		{[]float32{1, 3, 3, 2, 5}, 2, []int64{0, 3}},
		{[]float32{1, 3, 3, 2, 5}, 0, []int64{0, 0}},
		{[]float32{1, 3, 3, 2, 5}, 4, []int64{3, 4}},
		{[]float32{5, 2, 2, 3, 1, 1, 2}, 3, []int64{1, 5}},
		{[]float32{4, 4, 4}, 1, []int64{0, 2}},
		{[]float32{5}, 0, []int64{0, 0}},
		{[]float32{minusZero(), 0, minusZero()}, 1, []int64{0, 2}},
		{[]float32{0, minusZero(), 0}, 1, []int64{0, 2}},
		{[]float32{1, nan, 2, 3, 2, nan, 1}, 3, []int64{2, 4}},
		{[]float32{1, nan, 1}, 1, []int64{1, 1}},
		{[]float32{nan}, 0, []int64{0, 0}},
		{[]float32{-inf, -1, inf, inf, 0, -inf}, 2, []int64{0, 5}},
		{[]float32{-1, -2, -1}, 1, []int64{1, 1}},
		{[]float32{1}, 1, nil},
		{[]float32{1}, -1, nil},
		{make([]float32, 129), 128, []int64{0, 128}},
		{make([]float32, 129), 129, nil},
	}
	for _, c := range cases {
		low, high, ok := impl.MainLobe(c.cut, c.at)
		isRange(t, fmt.Sprint("main lobe ", c.cut, c.at), low, high, ok, c.want)
	}
}

// rangeAround returns the least and the greatest index up to which all indices
// from at on are taken.
func rangeAround(length, at int, taken func(i, before int) bool) []int64 {
	low, high := 0, length-1
	for i := range length {
		if i < at && !taken(i, i+1) {
			low = i + 1
		}
		if k := length - 1 - i; k > at && !taken(k, k-1) {
			high = k - 1
		}
	}
	return []int64{int64(low), int64(high)}
}

// Promise 4: widths, main lobes and side levels are as told, for all short cuts.
func TestRangesOfShortCuts(t *testing.T) {
	for _, cut := range append(shortCuts(4), longCut()) {
		for at, x := range cut {
			width := rangeAround(len(cut), at, func(i, _ int) bool { return cut[i] >= x/2 })
			if isNot(x) || x < x/2 {
				width = nil
			}
			low, high, ok := impl.WidthOf(cut, int64(at))
			isRange(t, fmt.Sprint("width ", cut, at), low, high, ok, width)
			lobe := rangeAround(len(cut), at, func(i, before int) bool { return cut[i] <= cut[before] })
			low, high, ok = impl.MainLobe(cut, int64(at))
			isRange(t, fmt.Sprint("main lobe ", cut, at), low, high, ok, lobe)
			var outside []float32
			for i, y := range cut {
				if (i < int(lobe[0]) || i > int(lobe[1])) && !isNot(y) {
					outside = append(outside, y)
				}
			}
			isSide(t, cut, int64(at), outside)
		}
	}
}

// isSide fails the test unless SideLevel returns the first greatest of numbers
// outside, or refuses if there are none.
func isSide(t *testing.T, cut []float32, at int64, outside []float32) {
	t.Helper()
	what := fmt.Sprint("side level ", cut, at)
	got, ok := impl.SideLevel(cut, at)
	isEqual(t, what, ok, len(outside) > 0)
	var want float32
	for i, y := range outside {
		if i == 0 || y > want {
			want = y
		}
	}
	isNumber(t, what, got, want)
}

func TestSideLevel(t *testing.T) {
	nan := nan32()
	cases := []struct {
		cut     []float32
		at      int64
		outside []float32
	}{
		{[]float32{1, 3, 3, 2, 5}, 1, []float32{5}},
		{[]float32{1, 3, 3, 2, 5}, 4, []float32{3}},
		{[]float32{1, 3, 3, 2, 5}, 0, []float32{5}},
		{[]float32{6, 2, 5, 1, 7}, 2, []float32{7}},
		{[]float32{8, 2, 5, 1, 7}, 2, []float32{8}},
		{[]float32{minusZero(), 0, nan, 7}, 3, []float32{minusZero()}},
		{[]float32{0, minusZero(), nan, 7}, 3, []float32{0}},
		{[]float32{7, nan, -1}, 0, []float32{-1}},
		{[]float32{7, nan, -inf32()}, 0, []float32{-inf32()}},
		{[]float32{7, nan}, 0, nil},
		{[]float32{nan, nan}, 0, nil},
		{[]float32{nan, 2}, 0, []float32{2}},
		{[]float32{1, 2, 1}, 1, nil},
		{[]float32{2}, 0, nil},
		{[]float32{2, 3}, 2, nil},
		{[]float32{2, 3}, -1, nil},
		{[]float32{3, 2, 3}, 3, nil},
	}
	for _, c := range cases {
		isSide(t, c.cut, c.at, c.outside)
	}
}

// The functions with an index refuse those that no cut has.
func TestRangesRefuse(t *testing.T) {
	cuts := append(wrongCuts(), []float32{1, 3, 2}, longCut())
	for _, cut := range cuts {
		for _, at := range append(farIntegers(), -1, 3, 129, 130) {
			if len(cut) == 129 && at == 3 || len(cut) > 129 && at == 130 {
				at = 131
			}
			isRangeRefused(t, cut, at)
		}
	}
	for _, cut := range wrongCuts() {
		isRangeRefused(t, cut, 0)
		isRangeRefused(t, cut, 5)
	}
}

// isRangeRefused fails the test unless the functions with an index refuse.
func isRangeRefused(t *testing.T, cut []float32, at int64) {
	t.Helper()
	low, high, ok := impl.WidthOf(cut, at)
	isRange(t, fmt.Sprint("width ", len(cut), at), low, high, ok, nil)
	low, high, ok = impl.MainLobe(cut, at)
	isRange(t, fmt.Sprint("main lobe ", len(cut), at), low, high, ok, nil)
	isSide(t, cut, at, nil)
}

func TestLevelsOf(t *testing.T) {
	nan, inf := nan32(), inf32()
	cases := []struct {
		cut  []float32
		want []int64
	}{
		{[]float32{1, 0, 100, 10}, []int64{-200, -2000, 0, -100}},
		{[]float32{5}, []int64{0}},
		{[]float32{2, 2, 1, 4}, []int64{-30, -30, -60, 0}},
		{[]float32{1, nan, -1, minusZero(), 0, -inf, 0.5}, []int64{0, -2000, -2000, -2000, -2000, -2000, -30}},
		{[]float32{1, 1.03e-20, 1e-20, 0.97e-20, 1e-30}, []int64{0, -1999, -2000, -2000, -2000}},
		{[]float32{math.MaxFloat32, math.SmallestNonzeroFloat32, 1}, []int64{0, -2000, -2000}},
		{[]float32{nan, math.SmallestNonzeroFloat32}, []int64{-2000, 0}},
		{[]float32{nan}, nil},
		{[]float32{0}, nil},
		{[]float32{-1, 0, nan}, nil},
		{[]float32{minusZero()}, nil},
		{[]float32{1, inf}, nil},
		{[]float32{inf, nan}, nil},
		{[]float32{-inf}, nil},
	}
	for _, c := range cases {
		got, ok := impl.LevelsOf(c.cut)
		isResult(t, fmt.Sprint("levels ", c.cut), got, ok, c.want)
	}
	for _, cut := range wrongCuts() {
		got, ok := impl.LevelsOf(cut)
		isResult(t, fmt.Sprint("levels refused ", len(cut)), got, ok, nil)
	}
	long := longCut()
	got, ok := impl.LevelsOf(long)
	isEqual(t, "levels of a long cut", ok && len(got) == 129, true)
	top, _ := impl.TenthsOf(slices.Max(long))
	for i, x := range long {
		want := int64(-2000)
		if tenths, ok := impl.TenthsOf(x); ok {
			want = tenths - top
		}
		isEqual(t, fmt.Sprint("level ", i), got[i], want)
	}
}

func TestMeanPower(t *testing.T) {
	nan, inf, great := nan32(), inf32(), float32(1<<60)
	cases := []struct {
		cut  []float32
		want float32
	}{
		{[]float32{1, 3, 3, 2, 5}, 2.8},
		{[]float32{7}, 7},
		{[]float32{minusZero()}, 0},
		{[]float32{-1, -2}, -1.5},
		{[]float32{1, 0, 0}, float32(1.0 / 3.0)},
		// The sum is one of 64-bit numbers, from left to right.
		{[]float32{1 << 24, 1, 1}, 5592406},
		{[]float32{1, great, -great}, 0},
		{[]float32{great, -great, 1}, float32(1.0 / 3.0)},
		{[]float32{math.MaxFloat32, math.MaxFloat32}, math.MaxFloat32},
		{[]float32{inf, 1}, inf},
		{[]float32{inf, -inf}, nan},
		{[]float32{1, nan, 1}, nan},
		{append(make([]float32, 128), 129), 1},
	}
	for _, c := range cases {
		got, ok := impl.MeanPower(c.cut)
		isEqual(t, "mean taken", ok, true)
		isNumber(t, fmt.Sprint("mean ", c.cut), got, c.want)
	}
	for _, cut := range wrongCuts() {
		got, ok := impl.MeanPower(cut)
		isEqual(t, fmt.Sprint("mean refused ", len(cut)), ok, false)
		isNumber(t, "mean refused", got, 0)
	}
}
