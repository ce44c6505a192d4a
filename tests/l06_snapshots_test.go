package tests

import (
	"fmt"
	"slices"
	"testing"

	"loop.example/g01181/impl"
)

// someSources returns count sources with different directions, gains and seeds.
func someSources(count int) []impl.Source {
	sources := make([]impl.Source, count)
	for i := range sources {
		n := int64(i)
		sources[i] = impl.Source{From: impl.Direction{U: 13*n - 20, V: 7 - 3*n*n}, Gain: 1.3 - float32(i)*0.7, Seed: 12345 * (n + 1)}
	}
	return sources
}

// wrongSources returns too many sources, and sources out of their range.
func wrongSources() [][]impl.Source {
	wrong := [][]impl.Source{make([]impl.Source, 5), someSources(5), make([]impl.Source, 100)}
	for _, seed := range wrongSeeds() {
		wrong = append(wrong, []impl.Source{{Seed: seed}}, append(someSources(3), impl.Source{Seed: seed}))
	}
	for _, d := range wrongDirections() {
		wrong = append(wrong, []impl.Source{{From: d}}, append(someSources(3), impl.Source{From: d}))
	}
	return wrong
}

func TestValidSources(t *testing.T) {
	isEqual(t, "nil", impl.ValidSources(nil), true)
	isEqual(t, "none", impl.ValidSources([]impl.Source{}), true)
	for count := range 8 {
		isEqual(t, fmt.Sprint("sources ", count), impl.ValidSources(someSources(count)), count <= 4)
		isEqual(t, fmt.Sprint("equal sources ", count), impl.ValidSources(make([]impl.Source, count)), count <= 4)
	}
	for _, gain := range oddNumbers() {
		isEqual(t, fmt.Sprint("gain ", gain), impl.ValidSources([]impl.Source{{Gain: gain}}), true)
	}
	for _, seed := range someSeeds() {
		isEqual(t, fmt.Sprint("seed ", seed), impl.ValidSources([]impl.Source{{Seed: seed}}), true)
	}
	for _, d := range []impl.Direction{{U: 64}, {U: -64}, {V: 64}, {V: -64}, {U: 45, V: -45}} {
		isEqual(t, fmt.Sprint("direction ", d), impl.ValidSources([]impl.Source{{From: d}}), true)
	}
	for _, wrong := range wrongSources() {
		isEqual(t, fmt.Sprint("sources ", wrong), impl.ValidSources(wrong), false)
	}
}

// snapshotTold returns what each place receives, one place after another.
func snapshotTold(places []impl.Place, sources []impl.Source, level float32, seed, index int64) []complex64 {
	var shot []complex64
	for k, place := range places {
		var sum complex64
		for _, source := range sources {
			symbol := symbolTold(source.Seed, index)
			steering, _ := impl.SteeringOf([]impl.Place{place}, source.From)
			sum = plus(sum, impl.MulComplex(scaled(symbol, source.Gain), steering[0]))
		}
		shot = append(shot, plus(sum, scaled(noiseTold(seed, index, int64(k)), level)))
	}
	return shot
}

// isReceived fails the test unless a snapshot is as told.
func isReceived(t *testing.T, places []impl.Place, sources []impl.Source, level float32, seed, index int64) {
	t.Helper()
	got, ok := impl.SnapshotOf(places, sources, level, seed, index)
	want := snapshotTold(places, sources, level, seed, index)
	isWeights(t, fmt.Sprint("snapshot ", places, sources, level, seed, index), got, ok, want)
}

// Sums of symbols with quarters of turns are exact.
func TestSnapshotsAreExactAtQuarters(t *testing.T) {
	line, _ := impl.LinePlaces(4, 32)
	// The symbol of the seed 1 is 1/2 + 1/2 i, and that of the seed 0 is -1/2 + 1/2 i.
	one, other := impl.Source{Gain: 2, Seed: 1}, impl.Source{From: impl.Direction{U: 32}, Gain: 4}
	cases := []struct {
		sources []impl.Source
		want    []complex64
	}{
		{nil, []complex64{0, 0, 0, 0}},
		{[]impl.Source{one}, []complex64{complex(1, 1), complex(1, 1), complex(1, 1), complex(1, 1)}},
		{[]impl.Source{other}, []complex64{complex(-2, 2), complex(-2, -2), complex(2, -2), complex(2, 2)}},
		{[]impl.Source{one, other}, []complex64{complex(-1, 3), complex(-1, -1), complex(3, -1), complex(3, 3)}},
		{[]impl.Source{one, one, one, other}, []complex64{complex(1, 5), complex(1, 1), complex(5, 1), complex(5, 5)}},
		{[]impl.Source{{Seed: 1}}, []complex64{0, 0, 0, 0}},
	}
	for _, c := range cases {
		for _, level := range []float32{0, minusZero()} {
			got, ok := impl.SnapshotOf(line, c.sources, level, 9, 0)
			isWeights(t, fmt.Sprint("snapshot ", c.sources), got, ok, c.want)
		}
	}
}

// Noise is added, also without sources, with the index of each place.
func TestSnapshotsOfNoiseAlone(t *testing.T) {
	for _, seed := range someSeeds() {
		for _, index := range someIndices() {
			var want []complex64
			for k := range int64(16) {
				noise, _ := impl.NoiseOf(seed, index, k, 0.3)
				want = append(want, noise)
			}
			got, ok := impl.SnapshotOf(onLine(16), nil, 0.3, seed, index)
			isWeights(t, fmt.Sprint("noise ", seed, index), got, ok, want)
		}
	}
}

// Each source is added in order, and the noise at last.
func TestSnapshotsAddInOrder(t *testing.T) {
	one, seed := onLine(1), int64(1)
	source := func(gain float32) impl.Source { return impl.Source{Gain: 2 * gain, Seed: seed} }
	cases := []struct {
		gains []float32
		want  float32
	}{
		{[]float32{1e8, 1, -1e8}, 0}, {[]float32{1e8, -1e8, 1}, 1}, {[]float32{1, 1e8, -1e8}, 0},
		{[]float32{1e8, 3, -1e8, 3}, 3}, {[]float32{3, 1e8, 3, -1e8}, 0},
	}
	for _, c := range cases {
		var sources []impl.Source
		for _, gain := range c.gains {
			sources = append(sources, source(gain))
		}
		got, ok := impl.SnapshotOf(one, sources, 0, 0, 0)
		isWeights(t, fmt.Sprint("sum of ", c.gains), got, ok, []complex64{complex(c.want, c.want)})
	}
	noise, _ := impl.NoiseOf(0, 0, 0, 1)
	got, ok := impl.SnapshotOf(one, []impl.Source{source(1e8), source(-1e8)}, 1, 0, 0)
	isWeights(t, "noise behind sources", got, ok, []complex64{noise})
	got, ok = impl.SnapshotOf(one, []impl.Source{source(1e8)}, 1, 0, 0)
	isWeights(t, "noise behind a great source", got, ok, []complex64{complex(1e8, 1e8)})
}

// Snapshots have the told bits for all numbers of places and sources.
func TestSnapshotsToTheBit(t *testing.T) {
	ring, _ := impl.RingPlaces(16, 300)
	for count := 1; count <= 16; count++ {
		for many := range 5 {
			for k, seed := range someSeeds() {
				index := someIndices()[(k+count)%12]
				isReceived(t, ring[:count], someSources(many), 0.37, seed, index)
			}
		}
	}
	for _, odd := range oddNumbers() {
		for index := range int64(8) {
			sources := append(someSources(2), impl.Source{From: impl.Direction{U: 11, V: -40}, Gain: odd, Seed: lastSeed})
			isReceived(t, ring[:5], sources, 0.1, 4, index)
			isReceived(t, ring[:5], sources, odd, 4, index)
			isReceived(t, onLine(3), []impl.Source{{Gain: odd, Seed: index}}, 0, 0, index)
		}
	}
}

func TestSnapshotOfRefuses(t *testing.T) {
	for _, places := range wrongPlaces() {
		got, ok := impl.SnapshotOf(places, someSources(1), 1, 0, 0)
		isWeights(t, fmt.Sprint("snapshot at ", places), got, ok, nil)
	}
	for _, sources := range wrongSources() {
		got, ok := impl.SnapshotOf(onLine(2), sources, 1, 0, 0)
		isWeights(t, fmt.Sprint("snapshot of ", sources), got, ok, nil)
	}
	for _, seed := range wrongSeeds() {
		got, ok := impl.SnapshotOf(onLine(2), someSources(1), 1, seed, 0)
		isWeights(t, fmt.Sprint("snapshot with the seed ", seed), got, ok, nil)
		got, ok = impl.SnapshotOf(onLine(2), nil, 0, seed, 0)
		isWeights(t, fmt.Sprint("no noise with the seed ", seed), got, ok, nil)
	}
	for _, index := range wrongIndices() {
		got, ok := impl.SnapshotOf(onLine(2), someSources(1), 1, 0, index)
		isWeights(t, fmt.Sprint("snapshot with the index ", index), got, ok, nil)
	}
}

// isShots fails the test unless a call has succeeded with the shots want, or has
// failed with none where want is nil.
func isShots(t *testing.T, what string, got [][]complex64, ok bool, want [][]complex64) {
	t.Helper()
	if ok != (want != nil) || len(got) != len(want) {
		t.Errorf("%s: got %v shots, %v, want %v", what, len(got), ok, len(want))
		return
	}
	for i, shot := range want {
		isWeights(t, fmt.Sprint(what, ", shot ", i), got[i], true, shot)
	}
}

func TestSnapshotsOf(t *testing.T) {
	ring, _ := impl.RingPlaces(7, 200)
	sources := someSources(3)
	for _, first := range []int64{0, 1, 5, 31337, lastIndex - 63} {
		for _, count := range []int64{0, 1, 2, 5, 63, 64} {
			want := [][]complex64{}
			for k := range count {
				want = append(want, snapshotTold(ring, sources, 0.2, lastSeed, first+k))
			}
			got, ok := impl.SnapshotsOf(ring, sources, 0.2, lastSeed, first, count)
			isShots(t, fmt.Sprint("snapshots ", first, count), got, ok, want)
			isEqual(t, "are shots", impl.AreShots(got), count > 0)
		}
	}
	got, ok := impl.SnapshotsOf(onLine(2), nil, 0, 0, 0, 3)
	isShots(t, "no sources and no noise", got, ok, [][]complex64{{0, 0}, {0, 0}, {0, 0}})
}

// All indices are indices, also the first one of no snapshots.
func TestSnapshotsHaveLimits(t *testing.T) {
	firsts := append(wrongIndices(), 0, 1, lastIndex-64, lastIndex-63, lastIndex-62, lastIndex-1, lastIndex)
	counts := append(farIntegers(), -64, -1, 0, 1, 2, 3, 62, 63, 64, 65, 66, lastIndex)
	for _, first := range firsts {
		for _, count := range counts {
			got, ok := impl.SnapshotsOf(onLine(1), nil, 0, 0, first, count)
			var want [][]complex64
			if first >= 0 && first <= lastIndex && count >= 0 && count <= 64 && (count == 0 || first+count-1 <= lastIndex) {
				want = slices.Repeat([][]complex64{{0}}, int(count))
			}
			isShots(t, fmt.Sprint("snapshots ", first, count), got, ok, want)
		}
	}
}

func TestSnapshotsOfRefuses(t *testing.T) {
	for _, count := range []int64{0, 1, 64} {
		for _, places := range wrongPlaces() {
			got, ok := impl.SnapshotsOf(places, nil, 1, 0, 0, count)
			isShots(t, fmt.Sprint("snapshots at ", places), got, ok, nil)
		}
		for _, sources := range wrongSources() {
			got, ok := impl.SnapshotsOf(onLine(2), sources, 1, 0, 0, count)
			isShots(t, fmt.Sprint("snapshots of ", sources), got, ok, nil)
		}
		for _, seed := range wrongSeeds() {
			got, ok := impl.SnapshotsOf(onLine(2), nil, 1, seed, 0, count)
			isShots(t, fmt.Sprint("snapshots with the seed ", seed), got, ok, nil)
		}
	}
}
