package tests

import (
	"fmt"
	"math"
	"slices"
	"testing"

	"loop.example/g01181/impl"
)

// powerTold returns the power of a number, narrowed.
func powerTold(x complex64) float32 {
	re, im := float64(real(x)), float64(imag(x))
	return float32(float64(re*re) + float64(im*im))
}

// outsideTold returns the power of x outside of vectors.
func outsideTold(vectors [][]complex64, x []complex64) float32 {
	sum := 0.0
	for _, y := range x {
		re, im := float64(real(y)), float64(imag(y))
		sum += float64(re*re) + float64(im*im)
	}
	outside := float32(sum)
	for _, vector := range vectors {
		outside = outside - powerTold(dotTold(vector, x))
	}
	return outside
}

// inverseTold returns the number of SubspaceCut for what is outside of vectors.
func inverseTold(outside float32) float32 {
	if isNot(outside) || outside <= 1.0/1048576 {
		return 1048576
	}
	return 1 / outside
}

// isOutside fails the test unless OutsideOf returns want.
func isOutside(t *testing.T, vectors [][]complex64, x []complex64, want float32) {
	t.Helper()
	got, ok := impl.OutsideOf(vectors, x)
	isPowers(t, fmt.Sprint("outside of ", vectors, x), []float32{got}, ok, []float32{want})
}

func TestOutsideOf(t *testing.T) {
	i, few := complex64(complex(0, 1)), complex64(complex(0.5, 0.5)/4096)
	cases := []struct {
		vectors [][]complex64
		x       []complex64
		want    float32
	}{
		{[][]complex64{{1, 0}}, []complex64{3, 2}, 4},
		{[][]complex64{{0, 1}, {1, 0}}, []complex64{3, 2}, 0},
		{[][]complex64{{0, i}}, []complex64{3, complex(0, 2)}, 9},
		{[][]complex64{{2, 0}}, []complex64{3, 2}, -23},
		// The conjugates are those of the vectors.
		{[][]complex64{{1, i}}, []complex64{1, i}, -2},
		{[][]complex64{{1, i}}, []complex64{1, -i}, 2},
		// There can be no vectors, and no numbers.
		{nil, []complex64{3, complex(0, 2)}, 13},
		{[][]complex64{}, []complex64{complex(3, 4)}, 25},
		{nil, nil, 0},
		{[][]complex64{{}, nil}, []complex64{}, 0},
		// The powers are taken away one after another: each of them is too small to be seen.
		{slices.Repeat([][]complex64{{few}}, 8), []complex64{4096}, 4096 * 4096},
		{[][]complex64{{1}, {few}}, []complex64{4096}, -0.5},
		{[][]complex64{{few}, {1}}, []complex64{4096}, 0},
		// Each of them is narrowed on its own.
		{nil, []complex64{3e38}, inf32()},
		{[][]complex64{{1}}, []complex64{3e38}, nan32()},
		{[][]complex64{{3e38}}, []complex64{1}, -inf32()},
		{[][]complex64{{complex(nan32(), 0)}}, []complex64{1}, nan32()},
		{[][]complex64{{complex(0, inf32())}}, []complex64{1}, nan32()},
	}
	for _, c := range cases {
		isOutside(t, c.vectors, c.x, c.want)
	}
}

// Promise 8: what is outside has the told bits, for all numbers of vectors and of
// their numbers.
func TestOutsidesToTheBit(t *testing.T) {
	odd := oddComplexes()
	for count := range 9 {
		for _, size := range []int{1, 2, 3, 5, 8, 16, 17, 63, 64} {
			for seed := range uint32(12) {
				vectors, x := drawnMatrix(seed, count, size).Rows, drawn(seed+3, size)
				isOutside(t, vectors, x, outsideTold(vectors, x))
				if count > 0 {
					vectors[int(seed)%count][size/2] = odd[(int(seed)*count*size*7)%len(odd)]
					isOutside(t, vectors, x, outsideTold(vectors, x))
				}
				x[size/3] = odd[(int(seed)*31+count*size)%len(odd)]
				isOutside(t, vectors, x, outsideTold(vectors, x))
			}
		}
	}
}

// For vectors that are across one another, what is outside of all of them and what is
// in each of them are all the power.
func TestOutsideIsWhatIsLeft(t *testing.T) {
	for size := 1; size <= 8; size++ {
		for count := 0; count <= size; count++ {
			x := drawn(uint32(size*10+count), size)
			whole, left := outsideTold(nil, x), float32(0)
			for _, y := range x[count:] {
				left += powerTold(y)
			}
			got, ok := impl.OutsideOf(unit(size)[:count], x)
			isEqual(t, fmt.Sprint("outside of ", count, " of ", size, ": ", got, left), ok && math.Abs(float64(got-left)) <= 1e-6*float64(whole), true)
		}
	}
}

func TestOutsideOfRefuses(t *testing.T) {
	for _, size := range []int{0, 1, 2, 8, 63, 64, 65, 66, 200} {
		for _, count := range []int{0, 1, 7, 8, 9, 10, 100} {
			vectors := onesShots(count, size)
			got, ok := impl.OutsideOf(vectors, ones(size))
			isEqual(t, fmt.Sprint("outside of ", count, size), ok, count <= 8 && size <= 64)
			isEqual(t, "no power", ok || got == 0, true)
			if count == 0 {
				continue
			}
			for _, at := range []int{0, count / 2, count - 1} {
				for _, other := range []int{0, size - 1, size + 1, 64, 65} {
					if other == size || other < 0 {
						continue
					}
					wrong := slices.Clone(vectors)
					wrong[at] = ones(other)
					got, ok := impl.OutsideOf(wrong, ones(size))
					isPowers(t, fmt.Sprint("outside of ", count, size, at, other), []float32{got}[:0], ok, nil)
					isNumber(t, "no power", got, 0)
				}
			}
		}
	}
}

func TestSubspaceCut(t *testing.T) {
	one, minus := []impl.Place{{}}, complex64(-1)
	two := []impl.Place{{}, {X: 32}}
	// The phases at U 64 are 1 and -1, and those at U 0 are 1 and 1.
	half := complex64(0.5)
	cases := []struct {
		places   []impl.Place
		vectors  [][]complex64
		from, to int64
		want     []float32
	}{
		{one, [][]complex64{{0}}, 0, 1, []float32{1, 1}},
		{one, [][]complex64{{1}}, 0, 0, []float32{1048576}},
		{two, nil, 64, 64, []float32{0.5}},
		{two, [][]complex64{{1, 0}}, 0, 0, []float32{1}},
		{two, [][]complex64{{1, 0}, {0, 1}}, -1, 1, []float32{1048576, 1048576, 1048576}},
		{two, [][]complex64{{half, half}}, 0, 0, []float32{1}},
		{two, [][]complex64{{half, half}}, 64, 64, []float32{0.5}},
		{two, [][]complex64{{half, -half}}, 64, 64, []float32{1}},
		// Less than nothing is outside of too great vectors.
		{one, [][]complex64{{2}}, 0, 0, []float32{1048576}},
		{two, [][]complex64{{minus, minus}}, 0, 0, []float32{1048576}},
		{one, [][]complex64{{3e38}}, 5, 6, []float32{1048576, 1048576}},
		{one, [][]complex64{{complex(nan32(), 0)}}, 0, 0, []float32{1048576}},
		{one, [][]complex64{{0}, {complex(0, inf32())}}, 0, 0, []float32{1048576}},
	}
	for _, c := range cases {
		got, ok := impl.SubspaceCut(c.places, c.vectors, 0, c.from, c.to)
		isPowers(t, fmt.Sprint("subspace cut ", c.vectors, c.from), got, ok, c.want)
	}
}

// OutsideOf at and around 1 / 1048576, which is the least one that counts.
func TestSubspacesHaveALimit(t *testing.T) {
	at := map[float32]int{}
	for x := float32(1 - 1.0/(1<<19)); x < 1; x = math.Nextafter32(x, 1) {
		for _, y := range []float32{0, 1.0 / (1 << 12)} {
			vectors := [][]complex64{{complex(x, y)}}
			outside := outsideTold(vectors, ones(1))
			got, ok := impl.SubspaceCut([]impl.Place{{}}, vectors, 0, 0, 0)
			isPowers(t, fmt.Sprint("subspace cut ", x, y), got, ok, []float32{inverseTold(outside)})
			at[outside]++
		}
	}
	const unit = 1.0 / (1 << 24)
	isEqual(t, "at, below and above the limit", at[16*unit] > 0 && at[15*unit] > 0 && at[14*unit] > 0 && at[17*unit] > 0, true)
	got, _ := impl.SubspaceCut([]impl.Place{{}}, [][]complex64{{1 - 1.0/(1<<21)}}, 0, 0, 0)
	isPowers(t, "at the limit", got, true, []float32{1048576})
}

// Promise 8: subspace cuts have the told bits, for up to 16 places and 8 vectors.
func TestSubspaceCutsToTheBit(t *testing.T) {
	for size := 1; size <= 16; size++ {
		for k, places := range scanPlaces(size) {
			for count := range 9 {
				vectors := drawnMatrix(uint32(size*100+k*10+count), count, size).Rows
				for i, vector := range vectors {
					vectors[i], _ = impl.ScaleWeights(vector, 0.5/float32(size))
				}
				v := int64(count*8 - 32)
				end := int64(math.Sqrt(float64(4096 - v*v)))
				for _, ends := range [][2]int64{{-end, -end + 5}, {-2, 2}, {end, end}} {
					var want []float32
					for u := ends[0]; u <= ends[1]; u++ {
						phases, _ := impl.SteeringOf(places, impl.Direction{U: u, V: v})
						want = append(want, inverseTold(outsideTold(vectors, phases)))
					}
					got, ok := impl.SubspaceCut(places, vectors, v, ends[0], ends[1])
					isPowers(t, fmt.Sprint("subspace cut ", places, vectors, v, ends), got, ok, want)
				}
			}
		}
	}
	got, ok := impl.SubspaceCut(onLine(16), nil, 0, -64, 64)
	isEqual(t, "longest cut", ok && len(got) == 129, true)
	got, ok = impl.SubspaceCut(onLine(16), nil, -64, 0, 0)
	isEqual(t, "one direction", ok && len(got) == 1, true)
}

func TestSubspaceCutRefuses(t *testing.T) {
	for _, places := range wrongPlaces() {
		for _, count := range []int{0, 1, 2} {
			got, ok := impl.SubspaceCut(places, onesShots(count, len(places)), 0, 0, 0)
			isPowers(t, fmt.Sprint("subspace cut for ", places), got, ok, nil)
		}
	}
	for _, r := range refusedCuts() {
		got, ok := impl.SubspaceCut(onLine(2), unit(2)[:1], r[0], r[1], r[2])
		isPowers(t, fmt.Sprint("subspace cut ", r), got, ok, nil)
	}
	for size := 1; size <= 16; size++ {
		for other := range 20 {
			for _, count := range []int{0, 1, 8, 9, 16} {
				got, ok := impl.SubspaceCut(onLine(size), onesShots(count, other), 0, 5, 5)
				isEqual(t, fmt.Sprint("subspace cut ", size, other, count), ok, count == 0 || count <= 8 && other == size)
				isEqual(t, "numbers of it", len(got) == 1, ok)
			}
		}
	}
	got, ok := impl.SubspaceCut(onLine(2), [][]complex64{ones(2), ones(2), ones(3)}, 0, 0, 0)
	isPowers(t, "subspace cut of a longer vector", got, ok, nil)
}

// Promise 8: what shots of some sources have in common finds how many these are, and
// where they are, also at the ends.
func TestSubspacesFindSources(t *testing.T) {
	line, _ := impl.LinePlaces(8, 31)
	for _, from := range [][]int64{{-64, 0}, {0, 64}, {-63, 10, 50}, {-20, 20}, {-64, 32}, {5}, {-64}, {64}, {-40, -8, 24, 56}} {
		var sources []impl.Source
		for k, u := range from {
			sources = append(sources, impl.Source{From: impl.Direction{U: u}, Gain: 5 - float32(k), Seed: int64(k*7 + 3)})
		}
		shots, _ := impl.SnapshotsOf(line, sources, 0.05, 9, 0, 64)
		m, _ := impl.CovarianceOf(shots)
		vectors, values, ok := impl.VectorsOf(m, 6, 60)
		isEqual(t, fmt.Sprint("vectors of ", from), ok, true)
		count, ok := impl.CountSources(values, 20)
		isEqual(t, fmt.Sprint("sources from ", from, values), ok && int(count) == len(from), true)
		cut, _ := impl.SubspaceCut(line, vectors[:count], 0, -64, 64)
		lobes, ok := impl.StrongLobes(cut, count)
		for k := range lobes {
			lobes[k] -= 64
		}
		isResult(t, "sources found", lobes, ok, from)
	}
}
