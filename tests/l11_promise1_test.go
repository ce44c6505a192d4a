package tests

import (
	"fmt"
	"math"
	"slices"
	"strings"
	"testing"

	"loop.example/g01181/impl"
)

// desksReport calls the functions of chapter 11 with a desk, and tells all results.
func desksReport(d impl.Desk, line, script string) string {
	after, output, one := impl.DeskCommand(d, line)
	last, outputs, two := impl.RunDesk(d, script)
	return fmt.Sprint(one, two, impl.ValidDesk(d), output, "|", outputs, "|") + textOfDesk(after) + "|" + textOfDesk(last)
}

// journalsReport calls the other functions of chapter 11, and tells all results.
func journalsReport(lines []string, s string) string {
	journal, one := impl.JournalOf(lines)
	recovered, length, two := impl.RecoverJournal(s)
	return fmt.Sprintf("%v %v %q %q %d", one, two, journal, recovered, length)
}

// cutDesk returns a desk of some elements and shots, with others behind its ends.
func cutDesk(seed, elements, shots int) impl.Desk {
	d := deskOf(seed, 16, 0)
	rows := cutRows(uint32(seed), 12, elements)
	return impl.Desk{Places: d.Places[:elements], Weights: d.Weights[:elements], Shots: rows[:shots]}
}

// wholeDesk tells a desk, and all that lies behind its ends.
func wholeDesk(d impl.Desk) string {
	return fmt.Sprint(d.Places[:cap(d.Places)], ";") + bitsOfWeights(d.Weights[:cap(d.Weights)]) + ";" + wholeRows(d.Shots)
}

// linesFor returns a line of each form, for a desk of some elements.
func linesFor(elements int) []string {
	numbers := weightsTold(drawn(5, elements))
	return append(goodLines(), "weights "+numbers, "shot "+numbers, "fail 0", "steer -5 9", "", "fly", "fail 16", "taper 7")
}

// Promise 1: desks stay as they are, with what lies behind their ends.
func TestDesksAreNotModified(t *testing.T) {
	for elements := 1; elements < 12; elements++ {
		for shots := range 12 {
			d := cutDesk(shots, elements, shots)
			was, lines := wholeDesk(d), linesFor(elements)
			for _, line := range lines {
				script := line + "\nshow\n" + line + "\n"
				before := desksReport(d, line, script)
				isEqual(t, "desk again", desksReport(d, line, script), before)
				isEqual(t, "copy of a desk", desksReport(copiedDesk(d), line, script), before)
				isEqual(t, "desk behind "+line, wholeDesk(d), was)
			}
			script := strings.Join(append(lines, ""), "\n")
			isEqual(t, "desk again", desksReport(d, "", script), desksReport(d, "", script))
			isEqual(t, "desk behind a script", wholeDesk(d), was)
		}
	}
}

// Promise 1: shots and weights that share memory are like others.
func TestDesksThatShareMemory(t *testing.T) {
	list := drawn(9, 3)
	was := bitsOfWeights(list)
	d := impl.Desk{Places: onLine(3), Weights: list, Shots: [][]complex64{list, list, list}}
	for _, line := range linesFor(3) {
		script := line + "\n" + line + "\nshow\n"
		isEqual(t, "desk of one list", desksReport(d, line, script), desksReport(copiedDesk(d), line, script))
		isEqual(t, "the list", bitsOfWeights(list), was)
	}
}

// Promise 1: nil and empty slices are the same.
func TestNilAndEmptyDesks(t *testing.T) {
	for _, elements := range []int{0, 1, 2} {
		one, other := deskOf(1, elements, 0), deskOf(1, elements, 0)
		one.Shots, other.Shots = nil, [][]complex64{}
		for _, line := range linesFor(elements) {
			isEqual(t, "no shots", desksReport(one, line, line+"\n"), desksReport(other, line, line+"\n"))
		}
	}
	none, empty := impl.Desk{}, impl.Desk{Places: []impl.Place{}, Weights: []complex64{}, Shots: [][]complex64{}}
	isEqual(t, "no desk", desksReport(none, "show", ""), desksReport(empty, "show", ""))
	isEqual(t, "no lines", journalsReport(nil, ""), journalsReport([]string{}, ""))
}

// Promise 1: all functions of chapter 11 return for wrong desks, far integers and any
// bytes.
func TestAnyArgumentsReturnDesks(t *testing.T) {
	for _, wrong := range wrongDesks() {
		isEqual(t, "desk again", desksReport(wrong, "show", "show\n"), desksReport(wrong, "show", "show\n"))
	}
	for name, kinds := range forms {
		for _, n := range append(farIntegers(), impl.MaxValue, -impl.MaxValue, 0, 1, 64, 4096) {
			for k := range kinds {
				words := slices.Repeat([]string{"1"}, len(kinds))
				words[k] = fmt.Sprint(n)
				line := strings.Join(append([]string{name}, words...), " ")
				isLikeTold(t, twoWithShots(), line)
			}
			isLikeTold(t, twoWithShots(), name+strings.Repeat(fmt.Sprint(" ", n), len(kinds)))
		}
	}
	for seed := range 3000 {
		d := drawerFrom(seed)
		var bytes []byte
		for range d.from(0, 60) {
			bytes = append(bytes, byte(d.from(0, 255)))
		}
		s := string(bytes)
		for _, line := range []string{s, "show " + s, "weights " + s, "line 2 " + s} {
			isLikeTold(t, twoWithShots(), line)
			isScriptTold(t, twoWithShots(), line+"\nshow\n")
		}
		isEqual(t, "journal again", journalsReport(strings.Split(s, " "), s), journalsReport(strings.Split(s, " "), s))
	}
}

// Weights and shots of any numbers are taken by all lines.
func TestOddNumbersAtDesks(t *testing.T) {
	odd := oddComplexes()
	for k, x := range odd {
		y := odd[(k*7+3)%len(odd)]
		for _, d := range []impl.Desk{deskWith(x, 1), deskWith(x, y), withShots(deskWith(x, 2), []complex64{y, 1}, []complex64{2, 3}), withShots(deskWith(1, x), []complex64{1, 0}, []complex64{y, x})} {
			for _, line := range linesFor(2) {
				isLikeTold(t, d, line)
			}
		}
	}
}

// Promise 1: lines of journals stay as they are, with those behind their ends.
func TestLinesAreNotModified(t *testing.T) {
	lines := someLines()
	for count := range lines {
		before := journalsReport(lines[:count], journalTold(lines[:count]))
		isEqual(t, "journal again", journalsReport(lines[:count], journalTold(lines[:count])), before)
		isEqual(t, "journal of copies", journalsReport(slices.Clip(slices.Clone(lines[:count])), journalTold(lines[:count])), before)
		isResult(t, "lines", lines, true, someLines())
	}
}

// overwrite writes into all slices of a desk, also behind their ends.
func overwrite(d impl.Desk) {
	for _, list := range append([][]complex64{d.Weights}, d.Shots[:cap(d.Shots)]...) {
		list = list[:cap(list)]
		for k := range list {
			list[k] = complex(77, 99)
		}
	}
	places := d.Places[:cap(d.Places)]
	for k := range places {
		places[k] = impl.Place{X: 77, Y: 99}
	}
	clear(d.Shots[:cap(d.Shots)])
}

// isNewDesk fails the test if a desk that a call returns changes with what is written
// into one before, or if two of its lists share memory.
func isNewDesk(t *testing.T, what string, call func() (impl.Desk, bool)) {
	t.Helper()
	first, _ := call()
	was := copiedDesk(first)
	lists, wasLists := append([][]complex64{first.Weights}, first.Shots...), append([][]complex64{was.Weights}, was.Shots...)
	for k, list := range lists {
		isWeights(t, what+", another list", list, true, wasLists[k])
		list = list[:cap(list)]
		for n := range list {
			list[n] = complex(77, 99)
		}
	}
	overwrite(first)
	again, ok := call()
	isDesk(t, what+" again", again, ok, was)
}

// Promise 1: each result of chapter 11 is new memory, whatever the line is answered with.
func TestResultsOfChapter11ShareNoMemory(t *testing.T) {
	isNewDesk(t, "new desk", func() (impl.Desk, bool) { return impl.NewDesk(), true })
	list := drawn(9, 3)
	for _, d := range []impl.Desk{cutDesk(1, 3, 4), cutDesk(2, 1, 0), {Places: onLine(3), Weights: list, Shots: [][]complex64{list, list}}} {
		was := wholeDesk(d)
		for _, line := range linesFor(len(d.Places)) {
			isNewDesk(t, "desk behind "+line, func() (impl.Desk, bool) {
				after, _, ok := impl.DeskCommand(d, line)
				return after, ok
			})
			for _, script := range []string{"", line + "\n", line + "\n\n" + line + "\nfail 16\n"} {
				isNewDesk(t, "desk behind a script", func() (impl.Desk, bool) {
					after, _, ok := impl.RunDesk(d, script)
					return after, ok
				})
			}
			isEqual(t, "desk before "+line, wholeDesk(d), was)
		}
	}
	s := journalTold(someLines())
	isNewMemory(t, "lines", func() ([]string, bool) {
		lines, _, ok := impl.RecoverJournal(s)
		return lines, ok
	}, "other")
}

// The bits of not-a-numbers in memory make no difference.
func TestNotNumbersAtDesks(t *testing.T) {
	for _, bits := range []uint32{0x7f800001, 0x7fc00000, 0x7fffffff, 0xff800001, 0xffffffff} {
		x, n := complex(bits32(bits), 1), complex(float32(math.NaN()), 1)
		for _, line := range linesFor(2) {
			one, other := withShots(deskWith(x, 1), []complex64{1, x}), withShots(deskWith(n, 1), []complex64{1, n})
			isEqual(t, "desk with other bits", desksReport(one, line, line+"\nshow\n"), desksReport(other, line, line+"\nshow\n"))
		}
	}
}
