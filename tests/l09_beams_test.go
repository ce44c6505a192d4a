package tests

import (
	"fmt"
	"math/big"
	"slices"
	"testing"

	"loop.example/g01181/impl"
)

// drawer draws integers in no order, which its first value tells.
type drawer uint32

// drawerFrom returns a drawer that a seed tells.
func drawerFrom(seed int) *drawer {
	d := drawer(uint32(seed)*2654435761 + 12345)
	return &d
}

// from draws an integer from least to greatest.
func (d *drawer) from(least, greatest int64) int64 {
	*d = *d*1664525 + 1013904223
	return least + int64(*d>>8)%(greatest-least+1)
}

// direction draws a direction with parts up to spread, at most 45.
func (d *drawer) direction(spread int64) impl.Direction {
	u := d.from(-spread, spread)
	return impl.Direction{U: u, V: d.from(-spread, spread)}
}

// beams draws beams with directions up to spread, and dwells and times between jobs up
// to longest.
func (d *drawer) beams(count int, spread, longest int64) []impl.Beam {
	var list []impl.Beam
	for range count {
		every := d.from(1, longest)
		list = append(list, impl.Beam{Direction: d.direction(spread), Dwell: d.from(1, d.from(1, every)), Every: every})
	}
	return list
}

// beamAt returns a beam at U.
func beamAt(u, dwell, every int64) impl.Beam {
	return impl.Beam{Direction: impl.Direction{U: u}, Dwell: dwell, Every: every}
}

// equalBeams returns so many beams with the direction 0, 0.
func equalBeams(count int, dwell, every int64) []impl.Beam {
	return slices.Repeat([]impl.Beam{beamAt(0, dwell, every)}, count)
}

// wrongBeams returns lists that are no beams.
func wrongBeams() [][]impl.Beam {
	list := [][]impl.Beam{nil, {}, equalBeams(8, 1, 1), equalBeams(1000, 1, 1)}
	wrong := []impl.Beam{
		{}, beamAt(0, 0, 0), beamAt(0, 0, 1), beamAt(0, 1, 0), beamAt(0, -1, 5), beamAt(0, -2, -1), beamAt(0, 5, 4), beamAt(0, 2, 1),
		beamAt(0, 10000, 9999), beamAt(0, 1, 10001), beamAt(0, 10001, 10001), beamAt(0, 10001, 10000), beamAt(0, 10000, 10001), beamAt(65, 1, 1), beamAt(-65, 1, 1),
	}
	for _, n := range farIntegers() {
		wrong = append(wrong, beamAt(0, n, 5), beamAt(0, 5, n), beamAt(0, n, n))
	}
	for _, d := range wrongDirections() {
		wrong = append(wrong, impl.Beam{Direction: d, Dwell: 1, Every: 1})
	}
	for k, b := range wrong {
		among := equalBeams(7, 1, 9)
		among[k%7] = b
		list = append(list, []impl.Beam{b}, among)
	}
	return list
}

func TestAreBeams(t *testing.T) {
	for count := range 10 {
		isEqual(t, fmt.Sprint("beams ", count), impl.AreBeams(equalBeams(count, 1, 1)), count >= 1 && count <= 7)
	}
	numbers := []int64{-10000, -1, 0, 1, 2, 3, 9998, 9999, 10000, 10001, 10002}
	for _, dwell := range numbers {
		for _, every := range numbers {
			want := dwell >= 1 && dwell <= every && every <= 10000
			for _, beams := range [][]impl.Beam{{beamAt(64, dwell, every)}, {beamAt(0, 1, 1), beamAt(-64, dwell, every)}, {beamAt(0, dwell, every), beamAt(0, 1, 1)}} {
				isEqual(t, fmt.Sprint("beams ", beams), impl.AreBeams(beams), want)
			}
		}
	}
	for _, d := range allDirections() {
		isEqual(t, fmt.Sprint("beam at ", d), impl.AreBeams([]impl.Beam{{Direction: d, Dwell: 1, Every: 1}}), true)
	}
	for _, beams := range wrongBeams() {
		isEqual(t, fmt.Sprint("no beams ", len(beams), beams[:min(len(beams), 8)]), impl.AreBeams(beams), false)
	}
}

// turnTold returns the least number of ticks in which both parts can turn.
func turnTold(a, b impl.Direction) int64 {
	ticks := int64(0)
	for _, apart := range []int64{a.U - b.U, b.U - a.U, a.V - b.V, b.V - a.V} {
		for 16*ticks < apart {
			ticks++
		}
	}
	return ticks
}

func TestSwitchTicks(t *testing.T) {
	cases := []struct {
		a, b impl.Direction
		want int64
	}{
		{impl.Direction{U: 5, V: 6}, impl.Direction{U: 5, V: 6}, 0},
		{impl.Direction{}, impl.Direction{U: 1}, 1},
		{impl.Direction{}, impl.Direction{V: -1}, 1},
		{impl.Direction{}, impl.Direction{U: 16}, 1},
		{impl.Direction{}, impl.Direction{U: 17}, 2},
		{impl.Direction{}, impl.Direction{V: -16}, 1},
		{impl.Direction{}, impl.Direction{V: -17}, 2},
		{impl.Direction{}, impl.Direction{U: 16, V: -16}, 1},
		{impl.Direction{}, impl.Direction{U: 16, V: -17}, 2},
		{impl.Direction{}, impl.Direction{U: -33, V: 32}, 3},
		{impl.Direction{U: -30}, impl.Direction{U: 30}, 4},
		{impl.Direction{U: 45, V: 45}, impl.Direction{U: -45, V: -45}, 6},
		{impl.Direction{U: 64}, impl.Direction{U: -64}, 8},
		{impl.Direction{V: 64}, impl.Direction{V: -64}, 8},
		{impl.Direction{V: 64}, impl.Direction{V: -48}, 7},
		{impl.Direction{V: 64}, impl.Direction{V: -49}, 8},
	}
	for _, c := range cases {
		isEqual(t, fmt.Sprint("told turn ", c.a, c.b), turnTold(c.a, c.b), c.want)
		for _, pair := range [][2]impl.Direction{{c.a, c.b}, {c.b, c.a}} {
			got, ok := impl.SwitchTicks(pair[0], pair[1])
			isEqual(t, fmt.Sprint("turn ", pair), ok, true)
			isEqual(t, fmt.Sprint("turn ", pair), got, c.want)
		}
	}
	all := allDirections()
	for k, a := range all {
		for i := k % 131; i < len(all); i += 131 {
			if got, ok := impl.SwitchTicks(a, all[i]); !ok || got != turnTold(a, all[i]) {
				t.Errorf("turn from %v to %v: got %v, %v", a, all[i], got, ok)
			}
		}
	}
	for _, wrong := range wrongDirections() {
		for _, pair := range [][2]impl.Direction{{wrong, {}}, {{}, wrong}, {wrong, wrong}} {
			got, ok := impl.SwitchTicks(pair[0], pair[1])
			isEqual(t, fmt.Sprint("turn refused ", pair), ok, false)
			isEqual(t, fmt.Sprint("turn refused ", pair), got, 0)
		}
	}
}

// loadTold returns the load by fractions of any size.
func loadTold(beams []impl.Beam) (int64, int64, bool) {
	sum := new(big.Rat)
	for _, b := range beams {
		every, rest := big.NewInt(b.Every), new(big.Int)
		multiple := new(big.Int).Set(sum.Denom())
		for rest.Mod(multiple, every).Sign() != 0 {
			multiple.Add(multiple, sum.Denom())
		}
		if multiple.Cmp(big.NewInt(1000000000000)) > 0 {
			return 0, 0, false
		}
		sum.Add(sum, big.NewRat(b.Dwell, b.Every))
	}
	return sum.Num().Int64(), sum.Denom().Int64(), true
}

// isLoad fails the test unless the load is the given fraction, or refused for 0 / 0,
// and as told.
func isLoad(t *testing.T, beams []impl.Beam, top, bottom int64) {
	t.Helper()
	gotTop, gotBottom, ok := impl.LoadOf(beams)
	what := fmt.Sprint("load of ", beams)
	isEqual(t, what, ok, bottom > 0)
	isEqual(t, what, gotTop, top)
	isEqual(t, what, gotBottom, bottom)
	toldTop, toldBottom, told := loadTold(beams)
	isEqual(t, what+" as told", [2]int64{toldTop, toldBottom}, [2]int64{top, bottom})
	isEqual(t, what+" as told", told, bottom > 0)
}

// loads returns beams by their dwells and their times between jobs, in turn.
func loads(numbers ...int64) []impl.Beam {
	var list []impl.Beam
	for pair := range slices.Chunk(numbers, 2) {
		list = append(list, beamAt(0, pair[0], pair[1]))
	}
	return list
}

func TestLoadOf(t *testing.T) {
	cases := []struct {
		beams       []impl.Beam
		top, bottom int64
	}{
		{loads(1, 4, 2, 8), 1, 2},
		{loads(1, 1), 1, 1},
		{loads(10000, 10000), 1, 1},
		{loads(1, 10000), 1, 10000},
		{loads(6, 9), 2, 3},
		{loads(1, 2, 1, 3, 1, 6), 1, 1},
		{loads(1, 2, 1, 3), 5, 6},
		{loads(3, 4, 1, 6, 5, 8), 37, 24},
		{loads(7, 10, 9, 15), 13, 10},
		{loads(1, 1, 2, 2, 3, 3, 4, 4, 5, 5, 6, 6, 7, 7), 7, 1},
		{loads(9973, 9973, 9967, 9967, 9949, 9949, 9941, 9941, 9931, 9931, 9929, 9929, 9923, 9923), 7, 1},
	}
	for _, c := range cases {
		isLoad(t, c.beams, c.top, c.bottom)
	}
}

// The limit itself is a multiple of 5 to the power of 12, but no number up to 10000 is
// one of more than 5 to the power of 5: so no multiple is the limit. The greatest one
// below it is less by 1, and the least one above it greater by 10.
func TestLoadsAtTheLimit(t *testing.T) {
	isLoad(t, loads(1, 7, 1, 3861, 1, 3737, 1, 9901), 143484737342, 999999999999)
	isLoad(t, loads(1, 9901, 1, 3737, 1, 3861, 1, 7), 143484737342, 999999999999)
	isLoad(t, loads(1, 5, 1, 2783, 1, 8186, 1, 8779), 0, 0)
	isLoad(t, loads(1, 8779, 1, 8186, 1, 2783, 1, 5), 0, 0)
	isLoad(t, loads(1, 8779, 1, 8186, 1, 2783), 119078489, 200000000002)
	// Behind a denominator near the limit, fractions that need no greater one are added.
	isLoad(t, loads(1, 9901, 1, 3737, 1, 3861, 1, 7, 1, 1, 7, 7), 2143484737340, 999999999999)
	isLoad(t, loads(1, 9901, 1, 3737, 1, 3861, 1, 7, 1, 2), 0, 0)
	isLoad(t, loads(1, 9901, 1, 3737, 1, 3861, 1, 14), 0, 0)
	// The multiple is that of Every itself, not of the denominator of the fraction.
	isLoad(t, loads(1, 9901, 1, 3737, 1, 3861, 5000, 10000), 0, 0)
	isLoad(t, loads(1, 9901, 1, 3737, 1, 3861, 1, 2), 143036455567, 285714285714)
	isLoad(t, loads(5000, 10000, 1, 9901, 1, 3737, 1, 3861), 143036455567, 285714285714)
	// The denominator before is one in lowest terms, here 1 behind each second fraction.
	isLoad(t, loads(1, 9973, 9972, 9973, 1, 9967, 9966, 9967, 1, 9949, 9948, 9949, 1, 2), 7, 2)
	// The same denominators are too much where they stay.
	isLoad(t, loads(1, 9973, 1, 9967, 1, 9949), 297783951, 988939464559)
	isLoad(t, loads(1, 9973, 1, 9967, 1, 9949, 1, 2), 0, 0)
}

func TestLoadOfAnyBeams(t *testing.T) {
	taken := 0
	for seed := range 3000 {
		d := drawerFrom(seed)
		beams := d.beams(1+seed%7, 30, []int64{5, 12, 60, 300, 10000}[seed/7%5])
		top, bottom, ok := loadTold(beams)
		if ok {
			taken++
		}
		isLoad(t, beams, top, bottom)
	}
	isEqual(t, "loads taken and refused", taken > 1000 && taken < 2900, true)
	for _, beams := range wrongBeams() {
		top, bottom, ok := impl.LoadOf(beams)
		isEqual(t, fmt.Sprint("load refused ", len(beams)), ok, false)
		isEqual(t, "load refused", [2]int64{top, bottom}, [2]int64{})
	}
}
