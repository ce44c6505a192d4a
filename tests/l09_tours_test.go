package tests

import (
	"fmt"
	"slices"
	"testing"

	"loop.example/g01181/impl"
)

// along returns directions at some U.
func along(list ...int64) []impl.Direction {
	var directions []impl.Direction
	for _, u := range list {
		directions = append(directions, impl.Direction{U: u})
	}
	return directions
}

// wrongTours returns lists of directions that no tour can have.
func wrongTours() [][]impl.Direction {
	list := [][]impl.Direction{nil, {}, along(0, 1, 2, 3, 4, 5, 6, 7), make([]impl.Direction, 8), make([]impl.Direction, 1000)}
	for k, d := range wrongDirections() {
		among := along(0, 1, 2, 3, 4, 5, 6)
		among[k%7] = d
		list = append(list, []impl.Direction{d}, among)
	}
	return list
}

// eachOrder visits all orders of the indices behind the first ones, which stay, not
// the least one first.
func eachOrder(order []int64, first int, visit func(order []int64)) {
	if first == len(order) {
		visit(order)
		return
	}
	for k := len(order) - 1; k >= first; k-- {
		order[first], order[k] = order[k], order[first]
		eachOrder(order, first+1, visit)
		order[first], order[k] = order[k], order[first]
	}
}

// tourTold returns the ticks of an order.
func tourTold(directions []impl.Direction, order []int64) int64 {
	ticks := int64(0)
	for k, n := range order {
		ticks += turnTold(directions[n], directions[order[(k+1)%len(order)]])
	}
	return ticks
}

// isShortest fails the test unless the shortest tour is the least one of all those
// that begin with 0, and returns how many are as short.
func isShortest(t *testing.T, directions []impl.Direction) int {
	t.Helper()
	best, least, equal := []int64(nil), int64(0), 0
	eachOrder(upTo(int64(len(directions))), 1, func(order []int64) {
		ticks := tourTold(directions, order)
		if best == nil || ticks < least {
			best, least, equal = nil, ticks, 0
		}
		if ticks == least {
			equal++
			if best == nil || slices.Compare(order, best) < 0 {
				best = slices.Clone(order)
			}
		}
	})
	order, ticks, ok := impl.ShortestTour(directions)
	what := fmt.Sprint("tour of ", directions)
	isResult(t, what, order, ok, best)
	isEqual(t, what, ticks, least)
	again, ok := impl.TourTicks(directions, order)
	isEqual(t, what+" told again", ok && again == ticks, true)
	return equal
}

func TestShortestTour(t *testing.T) {
	cases := []struct {
		directions []impl.Direction
		order      []int64
		ticks      int64
	}{
		{along(0, 48, 16), []int64{0, 1, 2}, 6},
		{along(5), []int64{0}, 0},
		{along(64, -64), []int64{0, 1}, 16},
		{along(7, 7, 7, 7), []int64{0, 1, 2, 3}, 0},
		{along(0, 64, 16, 48), []int64{0, 1, 3, 2}, 8},
		{along(0, 64, 0, 64), []int64{0, 1, 3, 2}, 8},
		{along(0, -64, 64, -32, 32), []int64{0, 1, 3, 2, 4}, 16},
		{along(0, 64, -64, 32, -32), []int64{0, 1, 3, 2, 4}, 16},
		{along(0, 8, 16, 24, 32, 40, 48), []int64{0, 1, 3, 5, 6, 4, 2}, 7},
		// The corners of a square, where sides are shorter than the way across.
		{[]impl.Direction{{U: -40, V: -40}, {U: 40, V: 40}, {U: -40, V: 40}, {U: 40, V: -40}}, []int64{0, 1, 2, 3}, 20},
		{[]impl.Direction{{U: -32}, {V: 33}, {U: 32}, {V: -33}}, []int64{0, 1, 2, 3}, 12},
	}
	for _, c := range cases {
		order, ticks, ok := impl.ShortestTour(c.directions)
		isResult(t, fmt.Sprint("tour of ", c.directions), order, ok, c.order)
		isEqual(t, fmt.Sprint("tour of ", c.directions), ticks, c.ticks)
		isShortest(t, c.directions)
	}
	for _, directions := range wrongTours() {
		order, ticks, ok := impl.ShortestTour(directions)
		isResult(t, fmt.Sprint("tour refused ", len(directions)), order, ok, nil)
		isEqual(t, "ticks refused", ticks, 0)
	}
}

// Promise 10: no tour is shorter than the shortest one, and of several the least one
// is taken.
func TestShortestToursOfAnyDirections(t *testing.T) {
	single, several := 0, 0
	for seed := range 1500 {
		d := drawerFrom(seed)
		var directions []impl.Direction
		for range 1 + seed%7 {
			directions = append(directions, d.direction([]int64{0, 10, 25, 45, 45}[seed%5]))
		}
		// A tour and the same one backwards are equally short.
		if isShortest(t, directions) > 2 {
			several++
		} else {
			single++
		}
	}
	isEqual(t, "tours that are equally short and not", single > 200 && several > 200, true)
}

func TestTourTicks(t *testing.T) {
	for seed := range 40 {
		d := drawerFrom(seed)
		var directions []impl.Direction
		for range 1 + seed%7 {
			directions = append(directions, d.direction(45))
		}
		_, least, _ := impl.ShortestTour(directions)
		eachOrder(upTo(int64(len(directions))), 0, func(order []int64) {
			got, ok := impl.TourTicks(directions, order)
			isEqual(t, fmt.Sprint("ticks of ", directions, order), ok && got == tourTold(directions, order), true)
			isEqual(t, fmt.Sprint("no shorter tour ", directions, order), got >= least, true)
		})
	}
	cases := []struct {
		order []int64
		want  int64
	}{
		{[]int64{0, 1, 2, 3}, 12}, {[]int64{1, 2, 3, 0}, 12}, {[]int64{3, 2, 1, 0}, 12}, {[]int64{0, 2, 1, 3}, 15}, {[]int64{2, 0, 3, 1}, 15}, {[]int64{0, 1, 3, 2}, 13},
	}
	for _, c := range cases {
		got, ok := impl.TourTicks(along(0, 17, -17, -64), c.order)
		isEqual(t, fmt.Sprint("ticks of ", c.order), ok, true)
		isEqual(t, fmt.Sprint("ticks of ", c.order), got, c.want)
	}
}

func TestTourTicksRefuses(t *testing.T) {
	refuse := func(directions []impl.Direction, order []int64) {
		t.Helper()
		got, ok := impl.TourTicks(directions, order)
		isEqual(t, fmt.Sprint("order refused ", len(directions), order), ok, false)
		isEqual(t, fmt.Sprint("order refused ", len(directions), order), got, 0)
	}
	three := along(0, 20, 40)
	for _, order := range [][]int64{
		nil, {}, {0}, {0, 1}, {0, 1, 2, 3}, {0, 1, 2, 0}, {0, 1, 1}, {0, 0, 0}, {1, 1, 2}, {2, 2, 0}, {1, 2, 3}, {-1, 0, 1}, {0, 2, 3},
		{0, -1, 2}, {3, 1, 2}, {0, 1, 2, 2}, {0, 1, 2, -1}, upTo(7), upTo(8), upTo(1000),
	} {
		refuse(three, order)
	}
	for _, n := range farIntegers() {
		refuse(three, []int64{0, 1, n})
		refuse(three, []int64{n, 1, 2})
		refuse(three, []int64{0, 1, 2, n})
		refuse(along(0), []int64{n})
	}
	for _, directions := range wrongTours() {
		for _, order := range [][]int64{nil, {}, {0}, upTo(7), upTo(8), upTo(int64(len(directions)))} {
			refuse(directions, order)
		}
	}
}

// areApart reports whether two directions are at least apart.
func areApart(a, b impl.Direction, apart int64) bool {
	du, dv := a.U-b.U, a.V-b.V
	return du >= apart || -du >= apart || dv >= apart || -dv >= apart
}

// groupsTold returns the groups of beams that are far apart.
func groupsTold(beams []impl.Beam, apart int64) [][]int64 {
	groups := [][]int64{}
	for k, b := range beams {
		at := 0
		for ; at < len(groups); at++ {
			far := 0
			for _, n := range groups[at] {
				if areApart(beams[n].Direction, b.Direction, apart) {
					far++
				}
			}
			if far == len(groups[at]) {
				break
			}
		}
		if at == len(groups) {
			groups = append(groups, nil)
		}
		groups[at] = append(groups[at], int64(k))
	}
	return groups
}

// areGroups fails the test unless the groups are the given ones, and as told.
func areGroups(t *testing.T, beams []impl.Beam, apart int64, want [][]int64) {
	t.Helper()
	got, ok := impl.FarBeams(beams, apart)
	what := fmt.Sprint("groups of ", beams, apart)
	isEqual(t, what, ok, true)
	isEqual(t, what, fmt.Sprint(got), fmt.Sprint(want))
	isEqual(t, what+" as told", fmt.Sprint(groupsTold(beams, apart)), fmt.Sprint(want))
}

// beamsTo returns beams at directions.
func beamsTo(directions ...impl.Direction) []impl.Beam {
	var beams []impl.Beam
	for _, d := range directions {
		beams = append(beams, impl.Beam{Direction: d, Dwell: 1, Every: 1})
	}
	return beams
}

func TestFarBeams(t *testing.T) {
	cases := []struct {
		directions []impl.Direction
		apart      int64
		want       [][]int64
	}{
		{along(0, 48, 16), 20, [][]int64{{0, 1}, {2}}},
		{along(5), 128, [][]int64{{0}}},
		{along(5, 5, 5), 0, [][]int64{{0, 1, 2}}},
		{along(5, 5, 5), 1, [][]int64{{0}, {1}, {2}}},
		{along(5, 6, 5, 6), 1, [][]int64{{0, 1}, {2, 3}}},
		// Just apart, and one less.
		{along(0, 20), 20, [][]int64{{0, 1}}},
		{along(0, 19), 20, [][]int64{{0}, {1}}},
		{along(0, -20), 20, [][]int64{{0, 1}}},
		{along(0, -19), 20, [][]int64{{0}, {1}}},
		{along(64, -64), 128, [][]int64{{0, 1}}},
		{along(64, -63), 128, [][]int64{{0}, {1}}},
		{[]impl.Direction{{U: 3, V: 5}, {U: 4, V: 25}, {U: 4, V: -15}, {U: 3, V: 24}}, 20, [][]int64{{0, 1, 2}, {3}}},
		// Neither U nor V is enough apart, though the distance is greater.
		{[]impl.Direction{{U: 0, V: 0}, {U: 19, V: 19}}, 20, [][]int64{{0}, {1}}},
		{[]impl.Direction{{U: 0, V: 0}, {U: 19, V: -20}}, 20, [][]int64{{0, 1}}},
		{[]impl.Direction{{V: 64}, {V: -64}, {U: 64}, {U: -64}}, 128, [][]int64{{0, 1}, {2, 3}}},
		// All beams of a group count, and the first group that fits is taken.
		{along(0, 30, 45), 20, [][]int64{{0, 1}, {2}}},
		{along(0, 30, 15), 20, [][]int64{{0, 1}, {2}}},
		{along(0, 10, 30, 50), 20, [][]int64{{0, 2, 3}, {1}}},
		{along(0, 10, 20, 30, 40, 50, 60), 20, [][]int64{{0, 2, 4, 6}, {1, 3, 5}}},
		{along(0, 10, 15, 35, 36, 55, -20), 20, [][]int64{{0, 3, 5, 6}, {1, 4}, {2}}},
	}
	for _, c := range cases {
		areGroups(t, beamsTo(c.directions...), c.apart, c.want)
	}
	for seed := range 2000 {
		d := drawerFrom(seed)
		beams := d.beams(1+seed%7, []int64{1, 10, 45}[seed%3], 9)
		for _, apart := range []int64{0, 1, d.from(0, 20), d.from(0, 90), 128} {
			areGroups(t, beams, apart, groupsTold(beams, apart))
		}
	}
}

func TestFarBeamsRefuses(t *testing.T) {
	refuse := func(beams []impl.Beam, apart int64) {
		t.Helper()
		got, ok := impl.FarBeams(beams, apart)
		isEqual(t, fmt.Sprint("groups refused ", len(beams), apart), ok, false)
		isEqual(t, fmt.Sprint("groups refused ", len(beams), apart), len(got), 0)
	}
	for _, beams := range wrongBeams() {
		for _, apart := range []int64{0, 20, 128} {
			refuse(beams, apart)
		}
	}
	for _, apart := range append(farIntegers(), -128, -1, 129, 130) {
		refuse(loads(1, 4, 1, 5), apart)
	}
}

// isNearest fails the test unless the nearest beam is the given one.
func isNearest(t *testing.T, beams []impl.Beam, d impl.Direction, want int64) {
	t.Helper()
	got, ok := impl.NearestBeam(beams, d)
	isEqual(t, fmt.Sprint("nearest to ", d, beams), ok, true)
	isEqual(t, fmt.Sprint("nearest to ", d, beams), got, want)
}

func TestNearestBeam(t *testing.T) {
	cases := []struct {
		directions []impl.Direction
		d          impl.Direction
		want       int64
	}{
		{along(0, 48, 16), impl.Direction{U: 10}, 2},
		{along(0), impl.Direction{U: 64}, 0},
		// Two beams are equally near, or one of them is just nearer.
		{along(0, 20), impl.Direction{U: 10}, 0},
		{along(20, 0), impl.Direction{U: 10}, 0},
		{along(0, 20), impl.Direction{U: 11}, 1},
		{along(0, 20), impl.Direction{U: 9}, 0},
		{along(0, 20), impl.Direction{U: 10, V: -30}, 0},
		{along(7, 5, 5, 5), impl.Direction{U: 5}, 1},
		{along(64, -64), impl.Direction{V: 64}, 0},
		{[]impl.Direction{{U: 5}, {U: 3, V: 4}, {U: -4, V: 3}, {V: -5}}, impl.Direction{}, 0},
		{[]impl.Direction{{U: 6}, {U: 3, V: 4}, {U: -4, V: 3}, {V: -5}}, impl.Direction{}, 1},
		// The squares tell another beam than the sums, or the greater ones, of differences.
		{[]impl.Direction{{U: 7}, {U: 5, V: 5}}, impl.Direction{}, 0},
		{[]impl.Direction{{U: 8}, {U: 5, V: 5}}, impl.Direction{}, 1},
		{[]impl.Direction{{U: 5, V: 5}, {U: 6}}, impl.Direction{}, 1},
	}
	for _, c := range cases {
		isNearest(t, beamsTo(c.directions...), c.d, c.want)
	}
	all := allDirections()
	for seed := range 300 {
		d := drawerFrom(seed)
		beams := d.beams(1+seed%7, []int64{1, 8, 45}[seed%3], 9)
		for k := seed % 97; k < len(all); k += 97 {
			to := all[k]
			square := func(b impl.Beam) int64 {
				return (b.Direction.U-to.U)*(b.Direction.U-to.U) + (b.Direction.V-to.V)*(b.Direction.V-to.V)
			}
			want := len(beams) - 1
			for n := len(beams) - 1; n >= 0; n-- {
				if square(beams[n]) <= square(beams[want]) {
					want = n
				}
			}
			isNearest(t, beams, to, int64(want))
		}
	}
}

func TestNearestBeamRefuses(t *testing.T) {
	refuse := func(beams []impl.Beam, d impl.Direction) {
		t.Helper()
		got, ok := impl.NearestBeam(beams, d)
		isEqual(t, fmt.Sprint("nearest refused ", len(beams), d), ok, false)
		isEqual(t, fmt.Sprint("nearest refused ", len(beams), d), got, 0)
	}
	for _, beams := range wrongBeams() {
		refuse(beams, impl.Direction{})
		refuse(beams, impl.Direction{U: 64})
	}
	for _, d := range wrongDirections() {
		refuse(beamsTo(along(0, 64)...), d)
	}
}
