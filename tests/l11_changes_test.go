package tests

import (
	"fmt"
	"strings"
	"testing"

	"loop.example/g01181/impl"
)

// someDesks returns desks of some sizes, with and without shots.
func someDesks() []impl.Desk {
	return []impl.Desk{impl.NewDesk(), deskOf(1, 1, 1), deskOf(2, 2, 0), deskOf(3, 2, 3), deskOf(4, 3, 64), deskOf(5, 8, 5), deskOf(6, 9, 2), deskOf(7, 16, 64)}
}

// Promise 12: `line` and `grid` place elements with the weight 1, and leave no shots.
func TestPlacesOfLines(t *testing.T) {
	cases := []struct {
		line   string
		places []impl.Place
	}{
		{"line 1 0", []impl.Place{{}}},
		{"line 1 -4096", []impl.Place{{}}},
		{"line 2 32", []impl.Place{{}, {X: 32}}},
		{"line 3 -5", []impl.Place{{}, {X: -5}, {X: -10}}},
		{"line 2 4096", []impl.Place{{}, {X: 4096}}},
		{"grid 1 1 0 0", []impl.Place{{}}},
		{"grid 2 1 8 9", []impl.Place{{}, {X: 8}}},
		{"grid 1 2 8 9", []impl.Place{{}, {Y: 9}}},
		{"grid 2 3 4096 -7", []impl.Place{{}, {X: 4096}, {Y: -7}, {X: 4096, Y: -7}, {Y: -14}, {X: 4096, Y: -14}}},
		{"grid 3 2 5 4096", []impl.Place{{}, {X: 5}, {X: 10}, {Y: 4096}, {X: 5, Y: 4096}, {X: 10, Y: 4096}}},
	}
	for _, d := range someDesks() {
		for _, c := range cases {
			isAnswered(t, d, c.line, "ok", impl.Desk{Places: c.places, Weights: ones(len(c.places))})
		}
		line, _ := impl.LinePlaces(16, 273)
		isAnswered(t, d, "line 16 273", "ok", impl.Desk{Places: line, Weights: ones(16)})
		grid, _ := impl.GridPlaces(4, 4, 1365, -1365)
		isAnswered(t, d, "grid 4 4 1365 -1365", "ok", impl.Desk{Places: grid, Weights: ones(16)})
	}
}

func TestNoPlacesOfLines(t *testing.T) {
	refused := []string{
		"line 0 32", "line -1 32", "line 17 1", "line 2 0", "line 2 4097", "line 2 -4097", "line 16 274", "line 3 2049", "line 1 4097", "line 1000000000000000 1", "line 2 1000000000000000",
		"grid 0 1 8 8", "grid 1 0 8 8", "grid 17 1 1 1", "grid 1 17 1 1", "grid 3 6 1 1", "grid -2 -2 1 1", "grid 2 1 0 8", "grid 1 2 8 0", "grid 2 2 8 0",
		"grid 2 2 4097 1", "grid 2 2 1 4097", "grid 3 1 2049 0", "grid 4 4 1366 1", "grid 1 1 4097 0", "grid 4 4 1 1000000000000000",
	}
	for _, d := range someDesks() {
		for _, line := range refused {
			isTold(t, d, line, "no")
		}
	}
}

// Promise 12: `null` sets weights with nulls on a line of as many, and leaves no shots.
func TestNullsOfLines(t *testing.T) {
	lists := map[string][]int64{"none": nil, "0": {0}, "64": {64}, "-64": {-64}, "0,0": {0, 0}, "5,-5,12": {5, -5, 12}, "-64,-33,-7,0,1,8,64": {-64, -33, -7, 0, 1, 8, 64}}
	for _, d := range someDesks() {
		for text, list := range lists {
			for _, spacing := range []int64{1, 32, 585} {
				weights, _ := impl.NullWeights(spacing, list)
				places, _ := impl.LinePlaces(int64(len(list)+1), spacing)
				isAnswered(t, d, fmt.Sprint("null ", spacing, " ", text), "ok", impl.Desk{Places: places, Weights: weights})
			}
		}
		isAnswered(t, d, "null 4096 none", "ok", deskWith(complex(1, minusZero())))
		isAnswered(t, d, "null 4096 0", "ok", impl.Desk{Places: []impl.Place{{}, {X: 4096}}, Weights: []complex64{complex(-1, minusZero()), complex(1, minusZero())}})
		for _, line := range []string{"null 0 0", "null -1 0", "null 4097 0", "null 4097 none", "null 32 65", "null 32 -65", "null 32 0,65", "null 4096 0,0", "null 2049 1,2", "null 32 1,", "null 32 ,1", "null 32 "} {
			isTold(t, d, line, "no")
		}
	}
	for count := range 20 {
		text, list := "none", nullsFrom(-30, 4, count)
		if count > 0 {
			text = listTold(list)
		}
		line := "null 273 " + text
		if count > 15 {
			isTold(t, deskOf(1, 2, 2), line, "no")
			continue
		}
		weights, _ := impl.NullWeights(273, list)
		places, _ := impl.LinePlaces(int64(count+1), 273)
		isAnswered(t, deskOf(1, 2, 2), line, "ok", impl.Desk{Places: places, Weights: weights})
	}
	isTold(t, deskOf(1, 2, 2), "null 32 "+listTold(make([]int64, 64)), "no")
	isTold(t, deskOf(1, 2, 2), "null 32 "+listTold(make([]int64, 65)), "no")
}

// Promise 13: each null that a desk sets is one of its power, which has no decibels or
// few of them.
func TestNullsOfDesksReceiveNothing(t *testing.T) {
	d, _, _ := impl.RunDesk(impl.NewDesk(), "null 32 64,-32,0\n")
	for _, line := range []string{"power 64 0", "power -32 0", "power 0 0"} {
		isTold(t, d, line, "no")
	}
	isTold(t, d, "lobes 0 -64 64", listTold(lobesTold(d, 0, -64, 64)))
	isTold(t, d, "power 32 0", "120")
}

// lobesTold returns where the cut of a desk has lobes.
func lobesTold(d impl.Desk, v, from, to int64) []int64 {
	cut, _ := impl.CutOf(d.Places, d.Weights, v, from, to)
	var lobes []int64
	for _, k := range firstsOf(cut, func(x, y float32) bool { return x > y }) {
		lobes = append(lobes, from+k)
	}
	return lobes
}

// Promise 12: `weights` takes as many weights as places, and leaves places and shots.
func TestWeightsOfLines(t *testing.T) {
	for _, d := range someDesks() {
		for count := range 20 {
			list := drawn(uint32(count), count)
			line := "weights " + weightsTold(list)
			if count != len(d.Places) {
				isTold(t, d, line, "no")
				continue
			}
			isAnswered(t, d, line, "ok", impl.Desk{Places: d.Places, Weights: list, Shots: d.Shots})
		}
		isTold(t, d, "weights ", "no")
		isTold(t, d, "weights none", "no")
		isTold(t, d, "weights "+weightsTold(ones(64)), "no")
		isTold(t, d, "weights "+weightsTold(ones(65)), "no")
	}
	for _, x := range oddComplexes() {
		d := deskOf(1, 2, 2)
		isAnswered(t, d, "weights "+weightsTold([]complex64{x, 1}), "ok", impl.Desk{Places: d.Places, Weights: []complex64{x, 1}, Shots: d.Shots})
	}
}

// Promise 12: `steer` takes a direction, and leaves places and shots.
func TestSteeringOfLines(t *testing.T) {
	for _, d := range someDesks() {
		for _, to := range []impl.Direction{{}, {U: 32}, {V: 64}, {U: -64}, {U: 45, V: -45}, {U: 7, V: 11}} {
			weights, _ := impl.SteeringOf(d.Places, to)
			isAnswered(t, d, fmt.Sprint("steer ", to.U, " ", to.V), "ok", impl.Desk{Places: d.Places, Weights: weights, Shots: d.Shots})
		}
		for _, line := range []string{"steer 65 0", "steer 0 -65", "steer 64 1", "steer 46 45", "steer 1000000000000000 0", "steer 0 -1000000000000000"} {
			isTold(t, d, line, "no")
		}
	}
}

// Promise 12: `taper` multiplies each weight, and leaves places and shots.
func TestTapersOfLines(t *testing.T) {
	for _, d := range someDesks() {
		for kind := int64(-2); kind < 7; kind++ {
			line := fmt.Sprint("taper ", kind)
			taper, ok := impl.TaperOf(kind, int64(len(d.Places)))
			if !ok {
				isTold(t, d, line, "no")
				continue
			}
			var weights []complex64
			for k, x := range d.Weights {
				weights = append(weights, scaled(x, taper[k]))
			}
			isAnswered(t, d, line, "ok", impl.Desk{Places: d.Places, Weights: weights, Shots: d.Shots})
		}
		isTold(t, d, "taper 1000000000000000", "no")
	}
	isAnswered(t, deskWith(8, 8, complex(0, 8)), "taper 1", "ok", deskWith(4, 8, complex(0, 4)))
	isAnswered(t, deskWith(complex(inf32(), nan32()), complex(minusZero(), 0)), "taper 3", "ok", deskWith(complex(inf32(), nan32()), complex(minusZero(), 0)))
}

// Promise 12: `round` rounds all phases, and leaves places and shots.
func TestRoundingsOfLines(t *testing.T) {
	for _, d := range someDesks() {
		for bits := int64(-2); bits < 14; bits++ {
			line := fmt.Sprint("round ", bits)
			weights, ok := impl.RoundPhases(d.Weights, bits)
			isEqual(t, line, ok, bits >= 1 && bits <= 10)
			if !ok {
				isTold(t, d, line, "no")
				continue
			}
			isAnswered(t, d, line, "ok", impl.Desk{Places: d.Places, Weights: weights, Shots: d.Shots})
		}
	}
	isAnswered(t, deskWith(complex(0, 2), -3, complex(4, 0.1)), "round 2", "ok", deskWith(complex(0, 2), -3, complex(longOf32(complex(4, 0.1)), 0)))
	n := nan32()
	isAnswered(t, deskWith(complex(n, 2), complex(0, inf32()), 1), "round 3", "ok", deskWith(complex(n, n), complex(n, n), 1))
}

// longOf32 returns the length of a number.
func longOf32(x complex64) float32 { return float32(longOf(x)) }

// Promise 12: `fail` makes one weight +0 + 0 i, and leaves places and shots.
func TestFailuresOfLines(t *testing.T) {
	for _, d := range someDesks() {
		for index := -2; index < 19; index++ {
			line := fmt.Sprint("fail ", index)
			if index < 0 || index >= len(d.Weights) {
				isTold(t, d, line, "no")
				continue
			}
			want := copiedDesk(d)
			want.Weights[index] = 0
			isAnswered(t, d, line, "ok", want)
		}
		for _, line := range []string{"fail 1000000000000000", "fail -1000000000000000", "fail 9223372036854775807", "fail 4294967296", "fail 18446744073709551616"} {
			isTold(t, d, line, "no")
		}
	}
	for _, x := range oddComplexes() {
		isAnswered(t, deskWith(x, 2), "fail 0", "ok", deskWith(0, 2))
		isAnswered(t, deskWith(x, 2), "fail 1", "ok", deskWith(x, 0))
	}
}

// Promise 12: `shot` adds as many numbers as places, up to 64 times.
func TestShotsOfLines(t *testing.T) {
	for _, d := range someDesks() {
		for count := range 20 {
			list := drawn(uint32(count), count)
			line := "shot " + weightsTold(list)
			if count != len(d.Places) || len(d.Shots) == 64 {
				isTold(t, d, line, "no")
				continue
			}
			want := copiedDesk(d)
			want.Shots = append(want.Shots, list)
			isAnswered(t, d, line, "ok", want)
		}
		isTold(t, d, "shot ", "no")
		isTold(t, d, "shot none", "no")
		isTold(t, d, "shot "+weightsTold(ones(64)), "no")
		isTold(t, d, "shot "+weightsTold(ones(65)), "no")
	}
	for _, x := range oddComplexes() {
		d := deskOf(1, 2, 1)
		isAnswered(t, d, "shot "+weightsTold([]complex64{1, x}), "ok", impl.Desk{Places: d.Places, Weights: d.Weights, Shots: [][]complex64{d.Shots[0], {1, x}}})
	}
	d, script := impl.NewDesk(), "shot 4000000000000000\n"
	for count := 1; count < 70; count++ {
		got, out, ok := impl.RunDesk(d, strings.Repeat(script, count))
		isBytes(t, "outputs of shots", out, strings.Repeat("ok\n", min(count, 64))+strings.Repeat("no\n", max(count-64, 0)))
		want := impl.NewDesk()
		for range min(count, 64) {
			want.Shots = append(want.Shots, []complex64{2})
		}
		isDesk(t, "shots", got, ok, want)
	}
}

// Promise 12: lines that change weights leave shots, and lines that change places do not.
func TestShotsBehindOtherLines(t *testing.T) {
	d := deskOf(3, 2, 5)
	for _, line := range []string{"weights 3f80000000000000,0000000000000000", "steer 5 5", "taper 2", "round 4", "fail 1", "power 1 1", "levels 0 0 5", "lobes 0 0 5", "scan 0 0 5", "least 0 0 5", "show", "fly", "line 0 0", "grid 2 1 0 0", "null 0 1", ""} {
		got, _, ok := impl.DeskCommand(d, line)
		isShots(t, "shots behind "+line, got.Shots, ok, d.Shots)
		isTold(t, got, "size", "2,5")
	}
	for _, line := range []string{"line 2 32", "line 3 1", "grid 2 1 5 5", "grid 1 2 8 8", "null 32 5", "null 1 none"} {
		got, out, ok := impl.DeskCommand(d, line)
		isBytes(t, "output of "+line, out, "ok")
		isEqual(t, "shots behind "+line, len(got.Shots), 0)
		isEqual(t, "desk behind "+line, ok, true)
		isTold(t, got, "scan 0 0 5", "no")
	}
}
