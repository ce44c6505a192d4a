package tests

import (
	"fmt"
	"slices"
	"testing"

	"loop.example/g01181/impl"
)

// deskOf returns a desk of elements on a line, with numbers that a seed tells.
func deskOf(seed, elements, shots int) impl.Desk {
	d := impl.Desk{Weights: drawn(uint32(7000+seed), elements), Shots: drawnMatrix(uint32(8000+seed), shots, elements).Rows}
	for k := range elements {
		d.Places = append(d.Places, impl.Place{X: int64(32 * k), Y: int64(k * (seed % 5))})
	}
	return d
}

// deskWith returns a desk of elements on a line with some weights.
func deskWith(weights ...complex64) impl.Desk {
	d := deskOf(0, len(weights), 0)
	d.Weights = weights
	return d
}

// copiedDesk returns a copy of a desk without anything behind its ends.
func copiedDesk(d impl.Desk) impl.Desk {
	return impl.Desk{Places: slices.Clone(d.Places), Weights: slices.Clone(d.Weights), Shots: copyOf(d.Shots)}
}

// textOfDesk tells a desk, with one word for all not-a-numbers.
func textOfDesk(d impl.Desk) string {
	return fmt.Sprint(d.Places, len(d.Weights), ":") + bitsOfWeights(d.Weights) + fmt.Sprint(";", len(d.Shots), ":") + bitsOfRows(d.Shots)
}

// isDesk fails the test unless a call has succeeded with the desk want, or has failed
// with a zero one where want has no places.
func isDesk(t *testing.T, what string, got impl.Desk, ok bool, want impl.Desk) {
	t.Helper()
	isEqual(t, what, ok, len(want.Places) > 0)
	isEqual(t, what, textOfDesk(got), textOfDesk(want))
}

// isAnswered fails the test unless a line at a desk outputs what is told, and leaves the
// desk want.
func isAnswered(t *testing.T, d impl.Desk, line, output string, want impl.Desk) {
	t.Helper()
	before := textOfDesk(d)
	got, out, ok := impl.DeskCommand(d, line)
	isDesk(t, fmt.Sprintf("desk behind %q", line), got, ok, want)
	isBytes(t, fmt.Sprintf("output of %q", line), out, output)
	isEqual(t, fmt.Sprintf("desk before %q", line), textOfDesk(d), before)
}

// isTold fails the test unless a line at a desk outputs what is told, and changes nothing.
func isTold(t *testing.T, d impl.Desk, line, output string) {
	t.Helper()
	isAnswered(t, d, line, output, d)
}

// wrongDesks returns desks that are not valid.
func wrongDesks() []impl.Desk {
	list := []impl.Desk{
		{}, {Weights: ones(1)}, {Shots: onesShots(1, 1)}, {Weights: ones(1), Shots: onesShots(1, 1)},
		{Places: []impl.Place{}, Weights: []complex64{}, Shots: [][]complex64{}}, {Shots: [][]complex64{{}}}, {Shots: [][]complex64{nil}},
	}
	for _, places := range wrongPlaces() {
		list = append(list, impl.Desk{Places: places, Weights: ones(len(places))})
		list = append(list, impl.Desk{Places: places, Weights: ones(len(places)), Shots: onesShots(3, len(places))})
	}
	for places := 1; places <= 16; places++ {
		for count := range 20 {
			if count != places {
				list = append(list, impl.Desk{Places: onLine(places), Weights: ones(count)})
				list = append(list, impl.Desk{Places: onLine(places), Weights: ones(count), Shots: onesShots(2, count)})
				list = append(list, impl.Desk{Places: onLine(places), Weights: ones(count), Shots: onesShots(2, places)})
				list = append(list, impl.Desk{Places: onLine(places), Weights: ones(places), Shots: onesShots(2, count)})
			}
		}
	}
	for _, shots := range wrongShots() {
		for _, places := range []int{1, 2, 3} {
			if len(shots) > 0 {
				list = append(list, impl.Desk{Places: onLine(places), Weights: ones(places), Shots: shots})
			}
		}
	}
	return list
}

// The limit is part of the interface of chapter 11.
func TestLimitsOfChapter11(t *testing.T) {
	isEqual(t, "MaxScript", impl.MaxScript, 6000)
}

func TestNewDesk(t *testing.T) {
	d := impl.NewDesk()
	isDesk(t, "new desk", d, true, impl.Desk{Places: []impl.Place{{}}, Weights: []complex64{1}})
	isEqual(t, "new desk", impl.ValidDesk(d), true)
	isEqual(t, "no shots", len(d.Shots), 0)
}

func TestValidDesk(t *testing.T) {
	for elements := 1; elements <= 16; elements++ {
		for _, shots := range []int{0, 1, 2, 63, 64} {
			isEqual(t, fmt.Sprint("desk ", elements, shots), impl.ValidDesk(deskOf(1, elements, shots)), true)
		}
		isEqual(t, fmt.Sprint("too many shots ", elements), impl.ValidDesk(deskOf(1, elements, 65)), false)
	}
	for _, x := range oddComplexes() {
		d := deskWith(x, 1)
		isEqual(t, "desk with any weight", impl.ValidDesk(d), true)
		d.Shots = [][]complex64{{1, x}, {x, x}}
		isEqual(t, "desk with any shot", impl.ValidDesk(d), true)
	}
	far := impl.Desk{Places: []impl.Place{{X: 4096, Y: -4096}, {X: -4096, Y: 4096}}, Weights: ones(2), Shots: [][]complex64{}}
	isEqual(t, "places far away", impl.ValidDesk(far), true)
	for _, wrong := range wrongDesks() {
		isEqual(t, "wrong desk "+textOfDesk(wrong), impl.ValidDesk(wrong), false)
	}
}

// No line and no script is carried out at a desk that is not valid.
func TestWrongDesksAreRefused(t *testing.T) {
	lines := []string{"", "line 2 32", "show", "size", "weights 3f80000000000000", "shot 3f80000000000000", "grid 2 2 5 5", "null 32 0", "fly"}
	for _, wrong := range wrongDesks() {
		for _, line := range lines {
			got, out, ok := impl.DeskCommand(wrong, line)
			isDesk(t, "line at a wrong desk", got, ok, impl.Desk{})
			isBytes(t, "line at a wrong desk", out, "")
		}
		for _, script := range []string{"", "\n", "line 2 32\n", "show\nsize\n"} {
			got, out, ok := impl.RunDesk(wrong, script)
			isDesk(t, "script at a wrong desk", got, ok, impl.Desk{})
			isBytes(t, "script at a wrong desk", out, "")
		}
	}
}
