package tests

import (
	"fmt"
	"slices"
	"testing"

	"loop.example/g01181/impl"
)

// gainsTold returns the gains of all elements.
func gainsTold(shots [][]complex64, phases []complex64) []complex64 {
	var gains []complex64
	for k := range shots[0] {
		var x, y complex64
		for _, shot := range shots {
			first := complex(real(shot[0]), -imag(shot[0]))
			x = plus(x, impl.MulComplex(shot[k], first))
			y = plus(y, impl.MulComplex(shot[0], first))
		}
		gain := impl.QuotientOf(impl.QuotientOf(x, y), phases[k])
		gains = append(gains, impl.MulComplex(gain, phases[0]))
	}
	return gains
}

// areGains fails the test unless GainsOf returns what is told.
func areGains(t *testing.T, shots [][]complex64, places []impl.Place, d impl.Direction) {
	t.Helper()
	phases, _ := impl.SteeringOf(places, d)
	got, ok := impl.GainsOf(shots, places, d)
	isWeights(t, fmt.Sprint("gains of ", shots, places, d), got, ok, gainsTold(shots, phases))
}

func TestGainsOf(t *testing.T) {
	i, none := complex64(complex(0, 1)), complex64(complex(nan32(), nan32()))
	line, _ := impl.LinePlaces(2, 32)
	back := []impl.Place{{X: 32}, {}}
	cases := []struct {
		shots  [][]complex64
		places []impl.Place
		u      int64
		want   []complex64
	}{
		{[][]complex64{{1, 2}, {i, 2 * i}}, line, 0, []complex64{1, 2}},
		{[][]complex64{{2, 2 * i}}, line, 0, []complex64{1, i}},
		{[][]complex64{{2 * i, 2}}, line, 0, []complex64{1, complex(0, -1)}},
		{[][]complex64{{2, i}}, line, 32, []complex64{1, 0.5}},
		{[][]complex64{{2, i}}, line, -32, []complex64{1, -0.5}},
		// The phases are 1 and i, or i and 1, of which the first one is multiplied.
		{[][]complex64{{1, 1}}, line, 32, []complex64{1, complex(0, -1)}},
		{[][]complex64{{1, 1}}, back, 32, []complex64{1, i}},
		{[][]complex64{{i, 3}}, back, 32, []complex64{1, 3}},
		// Several shots are taken together, and those without a source do not matter.
		{[][]complex64{{1, 3}, {0, 0}, {i, i}}, line, 0, []complex64{1, 2}},
		{[][]complex64{{1, 3}, {0, 7}}, line, 0, []complex64{1, 3}},
		// A gain of 0 is one, but nothing is told without the element 0.
		{[][]complex64{{2, 0}}, line, 0, []complex64{1, 0}},
		{[][]complex64{{0, 2}}, line, 0, []complex64{none, none}},
		{[][]complex64{{0, 0}, {0, 0}}, line, 0, []complex64{none, none}},
		{[][]complex64{{0}}, line[:1], 0, []complex64{none}},
		{[][]complex64{{1, complex(nan32(), 0)}}, line, 0, []complex64{1, none}},
	}
	for _, c := range cases {
		got, ok := impl.GainsOf(c.shots, c.places, impl.Direction{U: c.u})
		isWeights(t, fmt.Sprint("gains ", c.shots, c.places, c.u), got, ok, c.want)
		areGains(t, c.shots, c.places, impl.Direction{U: c.u})
	}
}

// Gains have the told bits for all numbers of shots and elements, and for any numbers.
func TestGainsToTheBit(t *testing.T) {
	odd := oddComplexes()
	for size := 1; size <= 16; size++ {
		for _, count := range []int{1, 2, 5, 63, 64} {
			for k, places := range scanPlaces(size) {
				d := impl.Direction{U: int64(count-size) / 2, V: int64(k*9 - 13)}
				shots := drawnMatrix(uint32(size*count), count, size).Rows
				areGains(t, shots, places, d)
				areGains(t, receivedShots(int64(size), count, size), places, d)
				shots[k%count][size-1] = odd[(size*count*7+k)%len(odd)]
				areGains(t, shots, places, d)
			}
		}
	}
	for k, x := range odd {
		shots := drawnMatrix(uint32(k), 1+k%3, 3).Rows
		shots[k%len(shots)][k%3] = x
		areGains(t, shots, onLine(3), impl.Direction{U: int64(k % 40)})
		shots[0] = []complex64{odd[k*5%len(odd)], odd[k*7%len(odd)], x}
		areGains(t, shots, onLine(3), impl.Direction{V: int64(k % 40)})
	}
}

// The gains of elements are found from a known source, and shots are calibrated with
// them.
func TestGainsAreFound(t *testing.T) {
	for size := 1; size <= 16; size++ {
		for k, places := range scanPlaces(size) {
			d := impl.Direction{U: int64(5*k - 30), V: int64(40 - size)}
			gains := drawn(uint32(size+k), size)
			for i := range gains {
				gains[i] += 2
			}
			phases, _ := impl.SteeringOf(places, d)
			clean, _ := impl.SnapshotsOf(places, []impl.Source{{From: d, Gain: 1.5, Seed: 99}}, 0, 0, 0, 20)
			var shots [][]complex64
			for _, shot := range clean {
				shot = slices.Clone(shot)
				for i := range shot {
					shot[i] *= gains[i]
				}
				shots = append(shots, shot)
			}
			got, ok := impl.GainsOf(shots, places, d)
			isEqual(t, "gains taken", ok, true)
			for i, x := range got {
				isNear(t, fmt.Sprint("gain ", i), x*gains[0], gains[i])
			}
			calibrated, ok := impl.CalibrateShot(shots[7], got)
			isEqual(t, "calibrated", ok, true)
			for i, x := range calibrated {
				isNear(t, fmt.Sprint("calibrated ", i), x, clean[7][0]*gains[0]*phases[i]/phases[0])
			}
		}
	}
}

func TestGainsOfRefuses(t *testing.T) {
	refuse := func(shots [][]complex64, places []impl.Place, d impl.Direction) {
		t.Helper()
		got, ok := impl.GainsOf(shots, places, d)
		isWeights(t, fmt.Sprint("gains of ", shots, places, d), got, ok, nil)
	}
	for _, shots := range wrongShots() {
		for _, size := range []int{0, 1, 2, 3, 8, 16, 17} {
			refuse(shots, onLine(size), impl.Direction{})
		}
	}
	for _, places := range wrongPlaces() {
		refuse(onesShots(2, len(places)), places, impl.Direction{})
	}
	for _, d := range wrongDirections() {
		refuse(onesShots(2, 3), onLine(3), d)
	}
	for count := 1; count <= 16; count++ {
		for other := 1; other <= 16; other++ {
			if count != other {
				refuse(onesShots(2, count), onLine(other), impl.Direction{})
			}
		}
	}
}

func TestCalibrateShot(t *testing.T) {
	i, none := complex64(complex(0, 1)), complex64(complex(nan32(), nan32()))
	cases := []struct {
		shot, gains, want []complex64
	}{
		{[]complex64{4, 2 * i}, []complex64{2, 2 * i}, []complex64{2, 1}},
		{[]complex64{complex(5, 5), 1}, []complex64{complex(3, -1), i}, []complex64{complex(1, 2), complex(0, -1)}},
		{[]complex64{0}, []complex64{3}, []complex64{0}},
		// A gain of zero leaves nothing that is a number.
		{[]complex64{1, i}, []complex64{0, 2}, []complex64{none, complex(0, 0.5)}},
		{[]complex64{0}, []complex64{complex(minusZero(), 0)}, []complex64{none}},
		{[]complex64{complex(inf32(), 0)}, []complex64{0}, []complex64{none}},
		{[]complex64{1}, []complex64{1e-40}, []complex64{complex(inf32(), 0)}},
		{[]complex64{1}, []complex64{complex(inf32(), 0)}, []complex64{none}},
	}
	for _, c := range cases {
		got, ok := impl.CalibrateShot(c.shot, c.gains)
		isWeights(t, fmt.Sprint("calibrated ", c.shot, c.gains), got, ok, c.want)
	}
	odd := oddComplexes()
	for k := range odd {
		for size := 1; size <= 16; size++ {
			shot, gains := drawn(uint32(k), size), drawn(uint32(k+5), size)
			shot[k%size], gains[k*7%size] = odd[k], odd[k*3%len(odd)]
			var want []complex64
			for i, x := range shot {
				want = append(want, impl.QuotientOf(x, gains[i]))
			}
			got, ok := impl.CalibrateShot(shot, gains)
			isWeights(t, fmt.Sprint("calibrated ", shot, gains), got, ok, want)
		}
	}
}

func TestCalibrateShotRefuses(t *testing.T) {
	for count := range 40 {
		for other := range 40 {
			got, ok := impl.CalibrateShot(ones(count), ones(other))
			var want []complex64
			if count == other && count >= 1 && count <= 16 {
				want = ones(count)
			}
			isWeights(t, fmt.Sprint("calibrated ", count, other), got, ok, want)
		}
	}
}

// delayedTold returns the sums of taps, one shot after another.
func delayedTold(taps, shots [][]complex64) []complex64 {
	var outputs []complex64
	for n := range shots {
		var sum complex64
		for k := 0; k < len(taps) && k <= n; k++ {
			sum = plus(sum, dotTold(taps[k], shots[n-k]))
		}
		outputs = append(outputs, sum)
	}
	return outputs
}

func TestDelayTaps(t *testing.T) {
	i := complex64(complex(0, 1))
	cases := []struct {
		taps, shots [][]complex64
		want        []complex64
	}{
		{[][]complex64{{1}, {2}}, [][]complex64{{1}, {3}, {5}}, []complex64{1, 5, 11}},
		{[][]complex64{{1}}, [][]complex64{{1}, {3}, {5}}, []complex64{1, 3, 5}},
		{[][]complex64{{0}, {0}, {1}}, [][]complex64{{1}, {3}, {5}}, []complex64{0, 0, 1}},
		// The conjugates are those of the taps.
		{[][]complex64{{1, i}, {i, 0}}, [][]complex64{{2, i}, {i, 1}}, []complex64{3, complex(0, -2)}},
		// There can be more taps than shots.
		{[][]complex64{{1}, {2}, {4}, {8}}, [][]complex64{{1}, {3}}, []complex64{1, 5}},
		{slices.Repeat([][]complex64{{1}}, 8), [][]complex64{{7}}, []complex64{7}},
		{slices.Repeat([][]complex64{{1}}, 8), onesShots(10, 1), []complex64{1, 2, 3, 4, 5, 6, 7, 8, 8, 8}},
		// Each sum begins with the shot itself, and goes back.
		{[][]complex64{{1e8}, {1}, {-1e8}}, onesShots(3, 1), []complex64{1e8, 1e8, 0}},
		{[][]complex64{{1e8, -1e8}, {1, 0}}, onesShots(2, 2), []complex64{0, 1}},
		{[][]complex64{{1, -1e8}, {1e8, 0}}, onesShots(2, 2), []complex64{-1e8, 0}},
		// A not-a-number comes only as long as a tap reaches it.
		{[][]complex64{{1}, {1}}, [][]complex64{{1}, {complex(inf32(), 0)}, {1}, {1}}, []complex64{1, complex(inf32(), nan32()), complex(inf32(), nan32()), 2}},
	}
	for _, c := range cases {
		got, ok := impl.DelayTaps(c.taps, c.shots)
		isWeights(t, fmt.Sprint("delayed ", c.taps, c.shots), got, ok, c.want)
	}
}

// Sums of taps have the told bits for all numbers of them, and for any numbers.
func TestDelayTapsToTheBit(t *testing.T) {
	odd := oddComplexes()
	for count := 1; count <= 8; count++ {
		for _, length := range []int{1, 2, 3, 7, 8, 9, 63, 64} {
			for size := 1; size <= 16; size++ {
				taps, shots := drawnMatrix(uint32(count), count, size).Rows, drawnMatrix(uint32(length), length, size).Rows
				for k := range 4 {
					got, ok := impl.DelayTaps(taps, shots)
					isWeights(t, fmt.Sprint("delayed ", taps, shots), got, ok, delayedTold(taps, shots))
					taps[k%count][k%size] = odd[(count*length*size+k*77)%len(odd)]
					shots[k*5%length][k%size] = odd[(count*length*size*7+k)%len(odd)]
				}
			}
		}
	}
}

// A single tap makes of shots what a beam does.
func TestOneTapIsABeam(t *testing.T) {
	shots := receivedShots(6, 50, 7)
	weights := drawn(4, 7)
	beam, _ := impl.BeamOfShots(weights, shots)
	got, ok := impl.DelayTaps([][]complex64{weights}, shots)
	isWeights(t, "one tap", got, ok, beam)
}

func TestDelayTapsRefuses(t *testing.T) {
	refuse := func(taps, shots [][]complex64) {
		t.Helper()
		got, ok := impl.DelayTaps(taps, shots)
		isWeights(t, fmt.Sprint("delayed ", taps, shots), got, ok, nil)
	}
	for _, wrong := range wrongShots() {
		for _, size := range []int{1, 2, 3, 8, 16} {
			refuse(onesShots(1, size), wrong)
			refuse(onesShots(8, size), wrong)
			if len(wrong) != 64 {
				refuse(wrong, onesShots(64, size))
			}
		}
	}
	for _, count := range []int{0, 1, 2, 7, 8, 9, 10, 64, 65} {
		for size := range 18 {
			for other := range 18 {
				got, ok := impl.DelayTaps(onesShots(count, size), onesShots(3, other))
				valid := count >= 1 && count <= 8 && size == other && size >= 1 && size <= 16
				isEqual(t, fmt.Sprint("taps ", count, size, other), ok, valid)
				isEqual(t, "outputs", len(got) == 3, valid)
			}
		}
	}
	for at := range 8 {
		taps := onesShots(8, 3)
		taps[at] = ones(2 + at%2*2)
		refuse(taps, onesShots(9, 3))
	}
}
