package tests

import (
	"fmt"
	"strconv"
	"strings"
	"testing"

	"loop.example/g01181/impl"
)

// twoElements returns a desk of two elements with the weight 1, whose power is 4 at even
// U and 0 at odd ones, but for the spacing 2048.
func twoElements() impl.Desk {
	return impl.Desk{Places: []impl.Place{{}, {X: 2048}}, Weights: ones(2)}
}

// spaced returns a desk of count elements half a wavelength apart, with the weight 1.
func spaced(count int) impl.Desk {
	places, _ := impl.LinePlaces(int64(count), 32)
	return impl.Desk{Places: places, Weights: ones(count)}
}

// withShots returns a desk with other shots.
func withShots(d impl.Desk, shots ...[]complex64) impl.Desk {
	d.Shots = shots
	return d
}

// withWeights returns a desk with other weights.
func withWeights(d impl.Desk, weights ...complex64) impl.Desk {
	d.Weights = weights
	return d
}

// Promise 13: `power` tells tenths of decibels, which there are for finite powers greater
// than 0.
func TestPowersOfLines(t *testing.T) {
	cases := []struct {
		weight complex64
		output string
	}{
		{1, "0"}, {2, "60"}, {complex(0, -2), "60"}, {10, "200"}, {0.5, "-60"}, {complex(3, 4), "140"}, {0.1, "-200"},
		{0, "no"}, {complex(minusZero(), 0), "no"}, {complex(nan32(), 0), "no"}, {complex(0, inf32()), "no"}, {complex(-inf32(), 0), "no"},
		{complex(1e20, 0), "no"}, {complex(1e-30, 0), "no"}, {complex(1e-20, 0), "-4000"}, {complex(1e19, 0), "3800"},
	}
	for _, c := range cases {
		isTold(t, deskWith(c.weight), "power 0 0", c.output)
		isTold(t, deskWith(c.weight), "power 45 45", c.output)
	}
	for _, d := range []impl.Desk{spaced(2), withShots(spaced(2), ones(2))} {
		isTold(t, d, "power 0 0", "60")
		isTold(t, d, "power 0 64", "60")
		isTold(t, d, "power 32 0", "30")
		isTold(t, d, "power 32 5", "30")
		isTold(t, d, "power 64 0", "no")
		for _, line := range []string{"power 65 0", "power 0 65", "power -65 0", "power 64 1", "power 46 -45", "power 0 1000000000000000", "power -1000000000000000 0"} {
			isTold(t, d, line, "no")
		}
	}
}

// Promise 13: `levels` tells a cut in tenths of decibels, of at most 64 directions.
func TestLevelsOfLines(t *testing.T) {
	isTold(t, spaced(2), "levels 0 0 0", "0")
	isTold(t, spaced(2), "levels 0 64 64", "no")
	isTold(t, spaced(2), "levels 0 0 64", "no")
	isTold(t, spaced(2), "levels 64 0 0", "0")
	isTold(t, twoElements(), "levels 0 -2 2", "0,-2000,0,-2000,0")
	isTold(t, twoElements(), "levels 5 -1 0", "-2000,0")
	isTold(t, twoElements(), "levels 5 1 1", "no")
	isTold(t, twoElements(), "levels 0 1 64", strings.Repeat("-2000,0,", 31)+"-2000,0")
	isTold(t, twoElements(), "levels 0 -64 -1", strings.Repeat("0,-2000,", 31)+"0,-2000")
	isTold(t, twoElements(), "levels 0 0 64", "no")
	isTold(t, twoElements(), "levels 0 -64 64", "no")
	isTold(t, withWeights(spaced(2), complex(nan32(), 0), 1), "levels 0 0 5", "no")
	isTold(t, withWeights(spaced(2), 1, complex(0, inf32())), "levels 0 0 5", "no")
	isTold(t, withWeights(spaced(2), 0, 0), "levels 0 0 5", "no")
	for _, r := range refusedCuts() {
		isTold(t, spaced(2), fmt.Sprint("levels ", r[0], " ", r[1], " ", r[2]), "no")
	}
}

// Promise 13: `lobes` tells the U of lobes, of which there can be none, and at most 64.
func TestLobesOfLines(t *testing.T) {
	isTold(t, spaced(2), "lobes 0 -64 64", "0")
	isTold(t, spaced(2), "lobes 0 5 64", "5")
	isTold(t, spaced(2), "lobes 0 -64 -5", "-5")
	isTold(t, spaced(2), "lobes -64 0 0", "0")
	isTold(t, spaced(1), "lobes 0 -64 64", "-64")
	isTold(t, spaced(1), "lobes 0 7 9", "7")
	isTold(t, twoElements(), "lobes 0 -3 3", "-2,0,2")
	isTold(t, twoElements(), "lobes 10 -3 3", "-2,0,2")
	isTold(t, twoElements(), "lobes 0 -64 64", "no")
	isTold(t, twoElements(), "lobes 0 -63 64", listTold(stepped(-62, 2, 64)))
	isTold(t, twoElements(), "lobes 0 -64 63", listTold(stepped(-64, 2, 64)))
	isTold(t, withWeights(spaced(2), complex(nan32(), 0), 1), "lobes 0 -64 64", "none")
	isTold(t, withWeights(spaced(2), 0, 0), "lobes 0 -64 64", "-64")
	isTold(t, withWeights(spaced(2), complex(inf32(), 0), 0), "lobes 0 0 0", "none")
	for _, r := range refusedCuts() {
		isTold(t, spaced(2), fmt.Sprint("lobes ", r[0], " ", r[1], " ", r[2]), "no")
	}
}

// sentShots returns shots of elements half a wavelength apart, of a source at U with
// some noise.
func sentShots(u int64, elements, count int) [][]complex64 {
	shots, _ := impl.SnapshotsOf(spaced(elements).Places, []impl.Source{{From: impl.Direction{U: u}, Gain: 4, Seed: 5}}, 0.1, 9, 0, int64(count))
	return shots
}

// Promise 13: `scan` and `least` find a source where it is.
func TestPeaksOfLines(t *testing.T) {
	for _, u := range []int64{-48, -20, 0, 7, 31} {
		for _, elements := range []int{2, 3, 8} {
			d := withShots(spaced(elements), sentShots(u, elements, 60)...)
			for _, name := range []string{"scan", "least"} {
				for _, span := range [][2]int64{{-60, 60}, {u, u + 9}, {u - 9, u}, {u, u}} {
					line := fmt.Sprint(name, " 0 ", span[0], " ", span[1])
					_, out, _ := impl.DeskCommand(d, line)
					isTold(t, d, line, out)
					at, err := strconv.ParseInt(out, 10, 64)
					if err != nil || at < max(u-2, span[0]) || at > min(u+2, span[1]) {
						t.Errorf("%s for a source at %d: got %s", line, u, out)
					}
				}
			}
		}
	}
	// The first one of equal powers is the peak.
	isTold(t, withShots(spaced(1), ones(1)), "scan 0 -9 9", "-9")
	isTold(t, withShots(spaced(1), ones(1)), "least 0 -9 9", "-9")
	isTold(t, withShots(spaced(2), ones(2)), "scan 0 -9 9", "0")
	isTold(t, withShots(spaced(2), ones(2)), "scan 64 0 0", "0")
	isTold(t, withShots(twoElements(), ones(2)), "scan 0 -1 1", "0")
	isTold(t, withShots(twoElements(), ones(2)), "scan 0 -2 1", "-2")
}

// Scans need shots of at most 8 numbers, least powers equations with a solution, too.
func TestNoPeaksOfLines(t *testing.T) {
	n, shots := complex(nan32(), 0), [][]complex64{ones(2)}
	cases := []struct {
		d           impl.Desk
		scan, least string
	}{
		{impl.NewDesk(), "no", "no"},
		{spaced(2), "no", "no"},
		{withShots(spaced(8), drawnMatrix(1, 20, 8).Rows...), "", ""},
		{withShots(spaced(9), drawnMatrix(1, 20, 9).Rows...), "no", "no"},
		{withShots(spaced(16), drawnMatrix(1, 20, 16).Rows...), "no", "no"},
		{withShots(spaced(2), shots...), "5", "no"},
		{withShots(spaced(2), []complex64{1, 0}, []complex64{0, 1}), "5", "5"},
		{withShots(spaced(2), []complex64{0, 0}), "5", "no"},
		{withShots(spaced(2), []complex64{n, 1}), "no", "no"},
		{withShots(spaced(2), []complex64{n, n}), "no", "no"},
		{withShots(spaced(2), []complex64{1, 0}, []complex64{0, complex(inf32(), 0)}), "no", "no"},
		{withShots(spaced(1), []complex64{n}), "no", "no"},
		{withShots(spaced(1), []complex64{0}), "5", "no"},
	}
	for _, c := range cases {
		// Weights make no difference, whatever they are.
		for _, weight := range []complex64{1, 0, n} {
			for k := range c.d.Weights {
				c.d.Weights[k] = weight
			}
			for name, want := range map[string]string{"scan": c.scan, "least": c.least} {
				line := name + " 0 5 9"
				if want == "" {
					_, want = answerTold(c.d, line)
				}
				isTold(t, c.d, line, want)
			}
		}
	}
	d := withShots(spaced(2), []complex64{1, 0}, []complex64{0, 1})
	for _, r := range refusedCuts() {
		isTold(t, d, fmt.Sprint("scan ", r[0], " ", r[1], " ", r[2]), "no")
		isTold(t, d, fmt.Sprint("least ", r[0], " ", r[1], " ", r[2]), "no")
	}
}

// Promise 13: `show` and `size` tell weights, places and shots.
func TestShowAndSizeOfLines(t *testing.T) {
	isTold(t, impl.NewDesk(), "show", "3f80000000000000")
	isTold(t, impl.NewDesk(), "size", "1,0")
	isTold(t, deskWith(complex(nan32(), minusZero()), complex(bits32(0xffc00001), inf32())), "show", "7fc0000080000000,7fc000007f800000")
	for elements := 1; elements <= 16; elements++ {
		for _, shots := range []int{0, 1, 9, 10, 64} {
			d := deskOf(elements, elements, shots)
			isTold(t, d, "size", fmt.Sprintf("%d,%d", elements, shots))
			isTold(t, d, "show", weightsTold(d.Weights))
		}
	}
	for _, x := range oddComplexes() {
		isTold(t, deskWith(x, 1), "show", weightsTold([]complex64{x})+",3f80000000000000")
	}
}
