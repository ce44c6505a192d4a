package tests

import (
	"fmt"
	"math"
	"testing"

	"loop.example/g01181/impl"
)

// wrongDirections returns directions that are not valid.
func wrongDirections() []impl.Direction {
	list := []impl.Direction{{U: 65}, {U: -65}, {V: 65}, {V: -65}, {U: 64, V: 1}, {U: -1, V: -64}, {U: 46, V: 45}, {U: 64, V: 64}}
	for _, n := range farIntegers() {
		list = append(list, impl.Direction{U: n}, impl.Direction{V: n}, impl.Direction{U: n, V: n}, impl.Direction{U: n, V: -n})
	}
	return list
}

func TestValidDirection(t *testing.T) {
	count := 0
	for u := int64(-70); u <= 70; u++ {
		for v := int64(-70); v <= 70; v++ {
			valid := impl.ValidDirection(impl.Direction{U: u, V: v})
			isEqual(t, fmt.Sprint("direction ", u, v), valid, math.Hypot(float64(u), float64(v)) <= 64)
			if valid {
				count++
			}
		}
	}
	// So many points with integers as parts are in a circle with the radius 64.
	isEqual(t, "number of directions", count, 12853)
	for _, d := range wrongDirections() {
		isEqual(t, fmt.Sprint("no direction ", d), impl.ValidDirection(d), false)
	}
}

func TestStepsAt(t *testing.T) {
	cases := []struct {
		p    impl.Place
		d    impl.Direction
		want int64
	}{
		{impl.Place{}, impl.Direction{U: 5, V: 6}, 0},
		{impl.Place{X: 3, Y: -2}, impl.Direction{U: 10, V: 20}, -10},
		{impl.Place{X: 3, Y: -2}, impl.Direction{U: 20, V: 10}, 40},
		{impl.Place{X: 4096, Y: 4096}, impl.Direction{U: 64}, 262144},
		{impl.Place{X: 4096, Y: -4096}, impl.Direction{V: 64}, -262144},
		{impl.Place{X: -4096, Y: 4096}, impl.Direction{U: -45, V: 45}, 368640},
	}
	for _, c := range cases {
		got, ok := impl.StepsAt(c.p, c.d)
		isEqual(t, "steps taken", ok, true)
		isEqual(t, fmt.Sprint("steps at ", c.p, c.d), got, c.want)
	}
	for _, d := range wrongDirections() {
		got, ok := impl.StepsAt(impl.Place{X: 1}, d)
		isEqual(t, fmt.Sprint("steps refused ", d), ok, false)
		isEqual(t, "steps refused", got, 0)
	}
	for _, places := range wrongPlaces() {
		if len(places) == 1 {
			got, ok := impl.StepsAt(places[0], impl.Direction{U: 1, V: 1})
			isEqual(t, fmt.Sprint("steps refused ", places[0]), ok, false)
			isEqual(t, "steps refused", got, 0)
		}
	}
}

// isSteering fails the test unless the phases are want, bit for bit.
func isSteering(t *testing.T, places []impl.Place, d impl.Direction, want []complex64) {
	t.Helper()
	got, ok := impl.SteeringOf(places, d)
	if !ok || !sameList(got, want) {
		t.Errorf("steering of %v and %v: got %v, %v, want %v", places, d, got, ok, want)
	}
}

// Promise 3: phases are exact at quarters of turns, without negative zeros.
func TestSteeringIsExactAtQuarters(t *testing.T) {
	i := complex64(complex(0, 1))
	places, _ := impl.LinePlaces(4, 32)
	isSteering(t, places, impl.Direction{U: 32}, []complex64{1, i, -1, complex(0, -1)})
	isSteering(t, places, impl.Direction{U: -32}, []complex64{1, complex(0, -1), complex(-1, 0), i})
	isSteering(t, places, impl.Direction{U: 64}, []complex64{1, -1, 1, -1})
	isSteering(t, places, impl.Direction{V: 64}, ones(4))
	isSteering(t, []impl.Place{{X: 4096, Y: -4096}, {X: -16, Y: 48}}, impl.Direction{U: 32, V: -32}, []complex64{1, -1})
	quarters := []complex64{1, i, -1, complex(0, -1)}
	for x := int64(-4096); x <= 4096; x += 16 {
		for u := int64(-64); u <= 64; u++ {
			if x*u%1024 == 0 {
				want := quarters[(x*u/1024%4+4)%4]
				isSteering(t, []impl.Place{{X: x, Y: 5}}, impl.Direction{U: u}, []complex64{want})
				isSteering(t, []impl.Place{{X: 5, Y: x}}, impl.Direction{V: u}, []complex64{want})
			}
		}
	}
}

// Phases are the phasors of steps, which are nearly those of the library.
func TestSteeringIsThatOfPhasors(t *testing.T) {
	places := []impl.Place{{}, {X: 1}, {Y: -1}, {X: 37, Y: 90}, {X: -4096, Y: 4095}, {X: 4093, Y: 4091}, {X: 999, Y: -3}}
	for u := int64(-64); u <= 64; u += 7 {
		for v := int64(-64); v <= 64; v += 5 {
			if u*u+v*v > 4096 {
				continue
			}
			want := make([]complex64, len(places))
			for k, p := range places {
				turns := float64(p.X*u+p.Y*v) / 4096
				want[k] = impl.PhasorOf(turns)
				s, c := math.Sincos(2 * math.Pi * math.Mod(turns, 1))
				if math.Abs(float64(real(want[k]))-c) > 1e-7 || math.Abs(float64(imag(want[k]))-s) > 1e-7 {
					t.Fatalf("phase of %v at %d, %d: got %v", p, u, v, want[k])
				}
			}
			isSteering(t, places, impl.Direction{U: u, V: v}, want)
		}
	}
	isSteering(t, []impl.Place{{X: 1}}, impl.Direction{U: 1}, []complex64{complex(bits32(0x3f7fffec), bits32(0x3ac90fd5))})
}

func TestSteeringRefuses(t *testing.T) {
	for _, places := range wrongPlaces() {
		got, ok := impl.SteeringOf(places, impl.Direction{})
		isResult(t, fmt.Sprint("steering of ", places), got, ok, nil)
	}
	for _, d := range wrongDirections() {
		for _, places := range [][]impl.Place{{{}}, onLine(16)} {
			got, ok := impl.SteeringOf(places, d)
			isResult(t, fmt.Sprint("steering at ", d), got, ok, nil)
		}
	}
	got, ok := impl.SteeringOf(onLine(16), impl.Direction{V: 64})
	isEqual(t, "most places taken", ok && len(got) == 16, true)
}

func TestTwinBeams(t *testing.T) {
	cases := []struct {
		spacing, u int64
		want       []int64
	}{
		{64, 10, []int64{-54, 10}},
		{64, 0, []int64{-64, 0, 64}},
		{32, 0, []int64{0}},
		{32, -64, []int64{-64, 64}},
		{32, 64, []int64{-64, 64}},
		{32, 63, []int64{63}},
		{33, 64, []int64{64}},
		{31, -64, []int64{-64}},
		{1, -64, []int64{-64}},
		{1, 64, []int64{64}},
		{96, 64, []int64{-64, 64}},
		{128, 64, []int64{-64, -32, 0, 32, 64}},
		{128, -5, []int64{-37, -5, 27, 59}},
		{2048, 63, oddShares()},
		{0, 0, nil},
		{-64, 0, nil},
		{4097, 0, nil},
		{64, 65, nil},
		{64, -65, nil},
	}
	for _, c := range cases {
		got, ok := impl.TwinBeams(c.spacing, c.u)
		isResult(t, fmt.Sprint("twins ", c.spacing, c.u), got, ok, c.want)
	}
	for _, u := range []int64{-64, 3, 64} {
		all, ok := impl.TwinBeams(4096, u)
		isEqual(t, "all are twins", ok && len(all) == 129 && all[0] == -64 && all[128] == 64, true)
	}
	for _, n := range farIntegers() {
		got, ok := impl.TwinBeams(n, 0)
		isResult(t, fmt.Sprint("twins spaced ", n), got, ok, nil)
		got, ok = impl.TwinBeams(64, n)
		isResult(t, fmt.Sprint("twins of ", n), got, ok, nil)
	}
}

// oddShares returns all odd numbers from -63 to 63.
func oddShares() []int64 {
	var list []int64
	for n := int64(-63); n <= 63; n += 2 {
		list = append(list, n)
	}
	return list
}

// Twins have the same phases on a line, bit for bit, and others have not.
func TestTwinsHaveTheSamePhases(t *testing.T) {
	for _, spacing := range []int64{1, 16, 31, 32, 33, 48, 64, 100, 128, 1000, 1024, 4095, 4096} {
		line := []impl.Place{{}, {X: spacing}}
		for u := int64(-64); u <= 64; u += 8 {
			phases, _ := impl.SteeringOf(line, impl.Direction{U: u})
			want := []int64{}
			for twin := int64(-64); twin <= 64; twin++ {
				others, _ := impl.SteeringOf(line, impl.Direction{U: twin})
				if sameList(phases, others) {
					want = append(want, twin)
				}
			}
			got, ok := impl.TwinBeams(spacing, u)
			isResult(t, fmt.Sprint("twins ", spacing, u), got, ok, want)
		}
	}
}
