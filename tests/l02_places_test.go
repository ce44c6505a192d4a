package tests

import (
	"fmt"
	"math"
	"slices"
	"testing"

	"loop.example/g01181/impl"
)

// onLine returns count different places at the Y 7.
func onLine(count int) []impl.Place {
	places := make([]impl.Place, count)
	for i := range places {
		places[i] = impl.Place{X: int64(i), Y: 7}
	}
	return places
}

// wrongPlaces returns lists that are no places.
func wrongPlaces() [][]impl.Place {
	list := [][]impl.Place{
		nil, {}, {{}, {}}, {{X: 3, Y: 4}, {X: 4, Y: 3}, {X: 3, Y: 4}}, {{X: 4097}}, {{Y: 4097}}, {{X: -4097}}, {{Y: -4097}},
		{{X: 1}, {X: 2}, {X: 4097, Y: 2}}, onLine(17), onLine(1000), append(onLine(15), impl.Place{X: 14, Y: 7}),
	}
	for _, n := range farIntegers() {
		list = append(list, []impl.Place{{X: n}}, []impl.Place{{X: 1}, {Y: n}}, []impl.Place{{X: n, Y: n}})
	}
	return list
}

func TestValidPlaces(t *testing.T) {
	valid := [][]impl.Place{
		{{}}, {{X: 4096, Y: -4096}, {X: -4096, Y: 4096}}, {{X: 1}, {Y: 1}}, {{X: 3, Y: 4}, {X: 4, Y: 3}, {X: -3, Y: 4}},
		onLine(1), onLine(16),
	}
	for _, places := range valid {
		isEqual(t, fmt.Sprint("places ", places), impl.ValidPlaces(places), true)
	}
	for _, places := range wrongPlaces() {
		isEqual(t, fmt.Sprint("no places ", places), impl.ValidPlaces(places), false)
	}
	for i := range 16 {
		for j := range 16 {
			places := onLine(16)
			places[i] = places[j]
			isEqual(t, fmt.Sprint("places together ", i, j), impl.ValidPlaces(places), i == j)
		}
	}
}

func TestLinePlaces(t *testing.T) {
	cases := []struct {
		count, spacing int64
		want           []impl.Place
	}{
		{3, 32, []impl.Place{{}, {X: 32}, {X: 64}}},
		{3, -5, []impl.Place{{}, {X: -5}, {X: -10}}},
		{1, 0, []impl.Place{{}}},
		{1, 4096, []impl.Place{{}}},
		{1, -4096, []impl.Place{{}}},
		{1, 4097, nil},
		{1, -4097, nil},
		{2, 0, nil},
		{2, 4096, []impl.Place{{}, {X: 4096}}},
		{2, -4096, []impl.Place{{}, {X: -4096}}},
		{2, 4097, nil},
		{3, 2048, []impl.Place{{}, {X: 2048}, {X: 4096}}},
		{3, 2049, nil},
		{3, -2049, nil},
		{16, 274, nil},
		{0, 1, nil},
		{-1, 1, nil},
		{17, 1, nil},
	}
	for _, c := range cases {
		got, ok := impl.LinePlaces(c.count, c.spacing)
		isResult(t, fmt.Sprint("line ", c.count, c.spacing), got, ok, c.want)
	}
	most, ok := impl.LinePlaces(16, 273)
	isEqual(t, "most places", ok && len(most) == 16 && most[15] == impl.Place{X: 4095}, true)
	for _, n := range farIntegers() {
		got, ok := impl.LinePlaces(n, 1)
		isResult(t, fmt.Sprint("line of ", n), got, ok, nil)
		got, ok = impl.LinePlaces(1, n)
		isResult(t, fmt.Sprint("line spaced ", n), got, ok, nil)
	}
}

func TestGridPlaces(t *testing.T) {
	cases := []struct {
		columns, rows, dx, dy int64
		want                  []impl.Place
	}{
		{2, 2, 10, 20, []impl.Place{{}, {X: 10}, {Y: 20}, {X: 10, Y: 20}}},
		{3, 2, -1, 5, []impl.Place{{}, {X: -1}, {X: -2}, {Y: 5}, {X: -1, Y: 5}, {X: -2, Y: 5}}},
		{1, 2, 0, 4096, []impl.Place{{}, {Y: 4096}}},
		{2, 1, 4096, 0, []impl.Place{{}, {X: 4096}}},
		{1, 1, 0, 0, []impl.Place{{}}},
		{1, 1, -4096, 4096, []impl.Place{{}}},
		{1, 1, 4097, 0, nil},
		{1, 1, 0, -4097, nil},
		{2, 2, 0, 20, nil},
		{2, 2, 10, 0, nil},
		{1, 2, 5, 0, nil},
		{1, 3, 0, 2049, nil},
		{3, 1, -2049, 0, nil},
		{0, 1, 1, 1, nil},
		{1, 0, 1, 1, nil},
		{-1, -1, 1, 1, nil},
		{-2, -3, 1, 1, nil},
		{17, 1, 1, 1, nil},
		{1, 17, 1, 1, nil},
		{3, 6, 1, 1, nil},
	}
	for _, c := range cases {
		got, ok := impl.GridPlaces(c.columns, c.rows, c.dx, c.dy)
		isResult(t, fmt.Sprint("grid ", c.columns, c.rows, c.dx, c.dy), got, ok, c.want)
	}
	for _, n := range farIntegers() {
		for k := range 4 {
			a := [4]int64{1, 1, 1, 1}
			a[k] = n
			got, ok := impl.GridPlaces(a[0], a[1], a[2], a[3])
			isResult(t, fmt.Sprint("grid ", a), got, ok, nil)
		}
		got, ok := impl.GridPlaces(n, n, 1, 1)
		isResult(t, fmt.Sprint("grid of ", n, " twice"), got, ok, nil)
	}
}

// All grids with up to 17 columns and rows are there if they are at most 16 places.
func TestGridsHaveALimit(t *testing.T) {
	for columns := range int64(18) {
		for rows := range int64(18) {
			var want []impl.Place
			for n := range columns * rows {
				want = append(want, impl.Place{X: n % columns * 3, Y: n / columns * -4})
			}
			if len(want) > 16 {
				want = nil
			}
			got, ok := impl.GridPlaces(columns, rows, 3, -4)
			isResult(t, fmt.Sprint("grid ", columns, rows), got, ok, want)
		}
	}
}

func TestRingPlaces(t *testing.T) {
	cases := []struct {
		count, radius int64
		want          []impl.Place
	}{
		{1, 0, []impl.Place{{}}},
		{1, 4096, []impl.Place{{X: 4096}}},
		{1, -4096, []impl.Place{{X: -4096}}},
		{2, 1, []impl.Place{{X: 1}, {X: -1}}},
		{4, 64, []impl.Place{{X: 64}, {Y: 64}, {X: -64}, {Y: -64}}},
		{4, -1, []impl.Place{{X: -1}, {Y: -1}, {X: 1}, {Y: 1}}},
		{4, 4096, []impl.Place{{X: 4096}, {Y: 4096}, {X: -4096}, {Y: -4096}}},
		{8, 1, []impl.Place{{X: 1}, {X: 1, Y: 1}, {Y: 1}, {X: -1, Y: 1}, {X: -1}, {X: -1, Y: -1}, {Y: -1}, {X: 1, Y: -1}}},
		// The third part of a turn has the real part -0.5 exactly.
		{3, 1, []impl.Place{{X: 1}, {Y: 1}, {Y: -1}}},
		{3, 3, []impl.Place{{X: 3}, {X: -2, Y: 3}, {X: -2, Y: -3}}},
		{3, 5, []impl.Place{{X: 5}, {X: -2, Y: 4}, {X: -2, Y: -4}}},
		{3, 4095, []impl.Place{{X: 4095}, {X: -2048, Y: 3546}, {X: -2048, Y: -3546}}},
		{6, 5, []impl.Place{{X: 5}, {X: 2, Y: 4}, {X: -2, Y: 4}, {X: -5}, {X: -2, Y: -4}, {X: 2, Y: -4}}},
		{2, 0, nil},
		{6, 1, nil},
		{16, 1, nil},
		{15, 2, nil},
		{0, 1, nil},
		{-3, 1, nil},
		{17, 4096, nil},
		{1, 4097, nil},
		{1, -4097, nil},
	}
	for _, c := range cases {
		got, ok := impl.RingPlaces(c.count, c.radius)
		isResult(t, fmt.Sprint("ring ", c.count, c.radius), got, ok, c.want)
	}
	for _, n := range farIntegers() {
		got, ok := impl.RingPlaces(n, 1)
		isResult(t, fmt.Sprint("ring of ", n), got, ok, nil)
		got, ok = impl.RingPlaces(1, n)
		isResult(t, fmt.Sprint("ring with the radius ", n), got, ok, nil)
	}
}

// Each place of a ring is the phasor's, as long as no two of them fall together.
func TestRingsAreThoseOfPhasors(t *testing.T) {
	for count := int64(1); count <= 16; count++ {
		for radius := int64(-4096); radius <= 4096; radius += 1 + max(radius, -radius)/40 {
			want := []impl.Place{}
			for k := range count {
				p := impl.PhasorOf(float64(k) / float64(count))
				x := math.RoundToEven(float64(real(p)) * float64(radius))
				y := math.RoundToEven(float64(imag(p)) * float64(radius))
				want = append(want, impl.Place{X: int64(x), Y: int64(y)})
			}
			if areTogether(want) {
				want = nil
			}
			got, ok := impl.RingPlaces(count, radius)
			isResult(t, fmt.Sprint("ring ", count, radius), got, ok, want)
		}
	}
}

// areTogether reports whether any two places are equal.
func areTogether(places []impl.Place) bool {
	for i, p := range places {
		if slices.Contains(places[:i], p) {
			return true
		}
	}
	return false
}

func TestShiftPlaces(t *testing.T) {
	two := []impl.Place{{X: 4000, Y: -4000}, {X: 1, Y: 2}}
	cases := []struct {
		places []impl.Place
		dx, dy int64
		want   []impl.Place
	}{
		{two, 0, 0, two},
		{two, 1, -1, []impl.Place{{X: 4001, Y: -4001}, {X: 2, Y: 1}}},
		{two, 96, -96, []impl.Place{{X: 4096, Y: -4096}, {X: 97, Y: -94}}},
		{two, 97, 0, nil},
		{two, 0, -97, nil},
		{two, -4096, 4094, []impl.Place{{X: -96, Y: 94}, {X: -4095, Y: 4096}}},
		{two, -4096, 4095, nil},
		{two, -4097, 0, nil},
		{[]impl.Place{{X: -4096, Y: 4096}}, 4096, -4096, []impl.Place{{}}},
		{[]impl.Place{{X: -4096, Y: 4096}}, 4097, 0, nil},
		{[]impl.Place{{X: -4096, Y: 4096}}, 0, -4097, nil},
		{[]impl.Place{{X: -4096, Y: 4096}}, -1, 0, nil},
		{[]impl.Place{{X: -4096, Y: 4096}}, 0, 1, nil},
	}
	for _, c := range cases {
		got, ok := impl.ShiftPlaces(c.places, c.dx, c.dy)
		isResult(t, fmt.Sprint("shifted ", c.places, c.dx, c.dy), got, ok, c.want)
	}
	for _, n := range farIntegers() {
		got, ok := impl.ShiftPlaces(two, n, 0)
		isResult(t, fmt.Sprint("shifted by ", n), got, ok, nil)
		got, ok = impl.ShiftPlaces(two, 0, n)
		isResult(t, fmt.Sprint("shifted up by ", n), got, ok, nil)
	}
	for _, places := range wrongPlaces() {
		got, ok := impl.ShiftPlaces(places, 0, 0)
		isResult(t, fmt.Sprint("shifted ", places), got, ok, nil)
	}
	// A shift of places that are none does not make them some.
	got, ok := impl.ShiftPlaces([]impl.Place{{X: 4097}}, -1, 0)
	isResult(t, "shifted back", got, ok, nil)
}

func TestBoxOfPlaces(t *testing.T) {
	cases := []struct {
		places    []impl.Place
		low, high impl.Place
	}{
		{[]impl.Place{{}}, impl.Place{}, impl.Place{}},
		{[]impl.Place{{X: 5, Y: -6}}, impl.Place{X: 5, Y: -6}, impl.Place{X: 5, Y: -6}},
		{[]impl.Place{{X: 1, Y: 9}, {X: 4, Y: 2}}, impl.Place{X: 1, Y: 2}, impl.Place{X: 4, Y: 9}},
		{[]impl.Place{{X: 4, Y: 2}, {X: 1, Y: 9}, {X: 2, Y: 3}}, impl.Place{X: 1, Y: 2}, impl.Place{X: 4, Y: 9}},
		{[]impl.Place{{X: -4096, Y: 4096}, {X: 4096, Y: -4096}}, impl.Place{X: -4096, Y: -4096}, impl.Place{X: 4096, Y: 4096}},
		{[]impl.Place{{X: -7, Y: -8}, {X: -2, Y: -3}}, impl.Place{X: -7, Y: -8}, impl.Place{X: -2, Y: -3}},
		{onLine(16), impl.Place{X: 0, Y: 7}, impl.Place{X: 15, Y: 7}},
	}
	for _, c := range cases {
		low, high, ok := impl.BoxOfPlaces(c.places)
		isEqual(t, "box taken", ok, true)
		isEqual(t, fmt.Sprint("least corner of ", c.places), low, c.low)
		isEqual(t, fmt.Sprint("greatest corner of ", c.places), high, c.high)
	}
	for _, places := range wrongPlaces() {
		low, high, ok := impl.BoxOfPlaces(places)
		isEqual(t, fmt.Sprint("box refused ", places), ok, false)
		isEqual(t, "corners of a box refused", [2]impl.Place{low, high}, [2]impl.Place{})
	}
}

func TestLeastDistance(t *testing.T) {
	cases := []struct {
		places []impl.Place
		want   int64
	}{
		{[]impl.Place{{}, {X: 3, Y: 4}}, 25},
		{[]impl.Place{{X: 3, Y: 4}, {}}, 25},
		{[]impl.Place{{X: -4096, Y: -4096}, {X: 4096, Y: 4096}}, 2 * 8192 * 8192},
		{[]impl.Place{{}, {X: 10}, {Y: 20}, {X: 10, Y: 20}}, 100},
		{[]impl.Place{{X: 100}, {X: -100}, {Y: 50}, {X: -99, Y: 1}}, 2},
		{[]impl.Place{{X: 5}, {X: 50}, {X: 7}}, 4},
		{[]impl.Place{{X: 50}, {X: 5}, {X: 7}}, 4},
		{onLine(16), 1},
	}
	for _, c := range cases {
		got, ok := impl.LeastDistance(c.places)
		isEqual(t, "distance taken", ok, true)
		isEqual(t, fmt.Sprint("least distance of ", c.places), got, c.want)
	}
	for _, places := range append(wrongPlaces(), onLine(1), []impl.Place{{}}) {
		got, ok := impl.LeastDistance(places)
		isEqual(t, fmt.Sprint("distance refused ", places), ok, false)
		isEqual(t, "distance refused", got, 0)
	}
}
