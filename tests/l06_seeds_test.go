package tests

import (
	"fmt"
	"testing"

	"loop.example/g01181/impl"
)

// lastSeed and lastIndex are the greatest seed and index.
const (
	lastSeed  = 2147483647
	lastIndex = 1000000
)

// wrongSeeds returns numbers that are no seeds.
func wrongSeeds() []int64 {
	return append(farIntegers(), -lastSeed, -12345, -2, -1, lastSeed+1, lastSeed+2)
}

// wrongIndices returns numbers that are no indices.
func wrongIndices() []int64 {
	return append(farIntegers(), -lastIndex, -2, -1, lastIndex+1, lastIndex+2, lastSeed)
}

// seedAfter returns the next seed by the wraparound of 32-bit numbers.
func seedAfter(seed uint32) uint32 {
	return (seed*1103515245 + 12345) & lastSeed
}

// drawTold returns the draw for a seed and a number by the wraparound of 32-bit
// numbers.
func drawTold(seed, n int64) int64 {
	return int64(seedAfter(seedAfter((uint32(seed)+40503*uint32(n))&lastSeed)) >> 16)
}

// symbolTold returns a symbol by the bits of its draw.
func symbolTold(seed, index int64) complex64 {
	draw, re, im := drawTold(seed, 2*index), float32(0.5), float32(0.5)
	if draw&0x4000 != 0 {
		re = -re
	}
	if draw&0x2000 != 0 {
		im = -im
	}
	return complex(re, im)
}

// noiseTold returns the noise with the level 1, whose parts are exact.
func noiseTold(seed, index, element int64) complex64 {
	n := 16*index + element + 1000000
	return complex(float32(drawTold(seed, 2*n))/16384-1, float32(drawTold(seed, 2*n+1))/16384-1)
}

// scaled returns a number with both parts multiplied, each product rounded on its own.
func scaled(x complex64, by float32) complex64 {
	return complex(float32(real(x)*by), float32(imag(x)*by))
}

// someSeeds returns the seeds at both ends and others between them.
func someSeeds() []int64 {
	return []int64{0, 1, 2, 5, 9, 12345, 65535, 65536, 1 << 30, 1406932606, lastSeed - 1, lastSeed}
}

// someIndices returns the indices at both ends and others between them.
func someIndices() []int64 {
	return []int64{0, 1, 2, 3, 7, 100, 4095, 26511, 65536, 500000, 999999, lastIndex}
}

func TestNextSeed(t *testing.T) {
	cases := [][2]int64{
		{0, 12345}, {12345, 1406932606}, {1406932606, 654583775}, {654583775, 1449466924}, {1, 1103527590},
		{lastSeed - 1, 2087949151}, {lastSeed, 1043980748},
	}
	for _, c := range cases {
		got, ok := impl.NextSeed(c[0])
		isEqual(t, fmt.Sprint("seed after ", c[0]), fmt.Sprint(got, ok), fmt.Sprint(c[1], true))
	}
	seed, told := int64(0), uint32(0)
	for range 100000 {
		next, ok := impl.NextSeed(seed)
		told = seedAfter(told)
		if !ok || next != int64(told) {
			t.Fatalf("seed after %v: got %v, %v, want %v", seed, next, ok, told)
		}
		seed = next
	}
	for _, wrong := range wrongSeeds() {
		got, ok := impl.NextSeed(wrong)
		isEqual(t, fmt.Sprint("seed after ", wrong), fmt.Sprint(got, ok), "0 false")
	}
}

func TestSymbolOf(t *testing.T) {
	cases := []struct {
		seed, index int64
		want        complex64
	}{
		{0, 0, complex(-0.5, 0.5)}, {1, 0, complex(0.5, 0.5)}, {lastSeed, 0, complex(0.5, 0.5)}, {0, 1, complex(0.5, -0.5)},
		{0, 2, complex(0.5, 0.5)}, {5, 7, complex(0.5, 0.5)}, {9, 3, complex(0.5, -0.5)},
		{0, lastIndex, complex(0.5, -0.5)}, {lastSeed, lastIndex, complex(-0.5, -0.5)},
	}
	for _, c := range cases {
		got, ok := impl.SymbolOf(c.seed, c.index)
		isSum(t, fmt.Sprint("symbol ", c.seed, c.index), got, ok, c.want)
	}
	for _, seed := range someSeeds() {
		for _, index := range someIndices() {
			got, ok := impl.SymbolOf(seed, index)
			isSum(t, fmt.Sprint("symbol ", seed, index), got, ok, symbolTold(seed, index))
		}
	}
	seen := map[complex64]int{}
	for index := range int64(2000) {
		got, ok := impl.SymbolOf(12345*index, index*500)
		isSum(t, fmt.Sprint("symbol ", index), got, ok, symbolTold(12345*index, index*500))
		seen[got]++
	}
	isEqual(t, "different symbols", len(seen), 4)
	for symbol, count := range seen {
		isEqual(t, fmt.Sprint("how often ", symbol, count), count > 300, true)
	}
}

func TestNoiseOf(t *testing.T) {
	cases := []struct {
		seed, index, element int64
		re, im               float32
	}{
		{0, 0, 0, -1075, 10249}, {9, 7, 0, 2047, 13371}, {9, 7, 1, -8073, 3251}, {0, lastIndex, 0, -1315, 10009},
		{lastSeed, 0, 15, -6095, 5229}, {lastSeed, lastIndex, 15, -6334, 4990},
		// Draws at both ends and in the middle.
		{5539, 0, 0, -16384, imag(noiseTold(5539, 0, 0)) * 16384},
		{59553, 0, 0, 16383, imag(noiseTold(59553, 0, 0)) * 16384},
		{47531, 0, 0, 0, imag(noiseTold(47531, 0, 0)) * 16384},
	}
	for _, c := range cases {
		what := fmt.Sprint("noise ", c.seed, c.index, c.element)
		got, ok := impl.NoiseOf(c.seed, c.index, c.element, 16384)
		isSum(t, what, got, ok, complex(c.re, c.im))
		got, ok = impl.NoiseOf(c.seed, c.index, c.element, 1)
		isSum(t, what, got, ok, complex(c.re/16384, c.im/16384))
	}
	for _, seed := range someSeeds() {
		for _, index := range someIndices() {
			for element := range int64(16) {
				one := noiseTold(seed, index, element)
				for _, level := range []float32{1, 0.1, -3.7} {
					got, ok := impl.NoiseOf(seed, index, element, level)
					isSum(t, fmt.Sprint("noise ", seed, index, element, level), got, ok, scaled(one, level))
				}
			}
		}
	}
}

// Levels can be any numbers, and zeros of noise have signs.
func TestNoiseOfOddLevels(t *testing.T) {
	for _, level := range oddNumbers() {
		for seed := range int64(200) {
			one := noiseTold(seed*seed, seed, seed%16)
			got, ok := impl.NoiseOf(seed*seed, seed, seed%16, level)
			isSum(t, fmt.Sprint("noise ", seed, level), got, ok, scaled(one, level))
		}
	}
	got, ok := impl.NoiseOf(0, 0, 0, 0)
	isSum(t, "noise of the level 0", got, ok, complex(minusZero(), 0))
	got, ok = impl.NoiseOf(0, 0, 0, minusZero())
	isSum(t, "noise of the level -0", got, ok, complex(0, minusZero()))
	got, ok = impl.NoiseOf(0, 0, 0, inf32())
	isSum(t, "noise of an infinity", got, ok, complex(-inf32(), inf32()))
	got, ok = impl.NoiseOf(47531, 0, 0, inf32())
	isEqual(t, "0 times an infinity", ok && isNot(real(got)), true)
}

func TestSeedsRefused(t *testing.T) {
	for _, seed := range wrongSeeds() {
		got, ok := impl.SymbolOf(seed, 0)
		isNoSum(t, fmt.Sprint("symbol of the seed ", seed), got, ok)
		got, ok = impl.NoiseOf(seed, 0, 0, 1)
		isNoSum(t, fmt.Sprint("noise of the seed ", seed), got, ok)
	}
	for _, index := range wrongIndices() {
		got, ok := impl.SymbolOf(5, index)
		isNoSum(t, fmt.Sprint("symbol with the index ", index), got, ok)
		got, ok = impl.NoiseOf(5, index, 0, 1)
		isNoSum(t, fmt.Sprint("noise with the index ", index), got, ok)
	}
	for _, element := range append(farIntegers(), -16, -1, 16, 17) {
		got, ok := impl.NoiseOf(5, 0, element, 1)
		isNoSum(t, fmt.Sprint("noise of the element ", element), got, ok)
	}
}
