package tests

import (
	"fmt"
	"math"
	"regexp"
	"slices"
	"strconv"
	"strings"

	"loop.example/g01181/impl"
)

// A second desk, which takes lines by patterns, and answers by the functions of the
// other chapters.

// forms has a letter for each word behind the name: n for numbers, l for lists and c for
// complex numbers.
var forms = map[string]string{
	"line": "nn", "grid": "nnnn", "null": "nl", "weights": "c", "steer": "nn", "taper": "n", "round": "n", "fail": "n", "shot": "c",
	"power": "nn", "levels": "nnn", "lobes": "nnn", "scan": "nnn", "least": "nnn", "show": "", "size": "",
}

var (
	decimalPattern = regexp.MustCompile(`^(0|-?[1-9][0-9]{0,15})$`)
	complexPattern = regexp.MustCompile(`^[0-9a-f]{16}$`)
	formPatterns   = patternsTold()
)

// patternsTold returns the pattern of each form, with all words behind the name.
func patternsTold() map[string]*regexp.Regexp {
	patterns := map[string]*regexp.Regexp{}
	for name, kinds := range forms {
		patterns[name] = regexp.MustCompile(`^` + name + strings.Repeat(` ([^ ]*)`, len(kinds)) + `$`)
	}
	return patterns
}

// wordsTold are the words of a line, as they are read.
type wordsTold struct {
	n []int64
	l []int64
	c []complex64
}

// numberTold returns the number with a text.
func numberTold(s string) (int64, bool) {
	if !decimalPattern.MatchString(s) {
		return 0, false
	}
	n, err := strconv.ParseInt(s, 10, 64)
	return n, err == nil && n >= -1e15 && n <= 1e15
}

// complexTold returns the complex number with a text.
func complexTold(s string) (complex64, bool) {
	if !complexPattern.MatchString(s) {
		return 0, false
	}
	n, _ := strconv.ParseUint(s, 16, 64)
	re, im := uint32(n>>32), uint32(n)
	for _, bits := range []uint32{re, im} {
		if isNot(bits32(bits)) && bits != 0x7fc00000 {
			return 0, false
		}
	}
	return complex(bits32(re), bits32(im)), true
}

// itemsTold returns at most 64 items of a text, which is "none" for no items.
func itemsTold[T any](s string, item func(s string) (T, bool)) ([]T, bool) {
	if s == "none" {
		return nil, true
	}
	var list []T
	for _, part := range strings.Split(s, ",") {
		x, ok := item(part)
		if !ok {
			return nil, false
		}
		list = append(list, x)
	}
	return list, len(list) <= 64
}

// readTold reads words of some kinds, and fails if one of them cannot be read.
func readTold(words []string, kinds string) (wordsTold, bool) {
	var read wordsTold
	for k, word := range words {
		var one bool
		switch kinds[k] {
		case 'n':
			var n int64
			n, one = numberTold(word)
			read.n = append(read.n, n)
		case 'l':
			read.l, one = itemsTold(word, numberTold)
		case 'c':
			read.c, one = itemsTold(word, complexTold)
		}
		if !one {
			return wordsTold{}, false
		}
	}
	return read, true
}

// isValidTold reports whether a desk is one.
func isValidTold(d impl.Desk) bool {
	count := len(d.Places)
	if count < 1 || count > 16 || len(d.Weights) != count || len(d.Shots) > 64 {
		return false
	}
	for k, p := range d.Places {
		if math.Abs(float64(p.X)) > 4096 || math.Abs(float64(p.Y)) > 4096 || slices.Contains(d.Places[:k], p) {
			return false
		}
	}
	return !slices.ContainsFunc(d.Shots, func(shot []complex64) bool { return len(shot) != count })
}

// answerTold returns the desk behind a line, and the output.
func answerTold(d impl.Desk, line string) (impl.Desk, string) {
	for name, kinds := range forms {
		match := formPatterns[name].FindStringSubmatch(line)
		if match == nil {
			continue
		}
		words, ok := readTold(match[1:], kinds)
		if !ok {
			return d, "no"
		}
		if output, ok := outputTold(d, name, words); output != "" {
			if !ok {
				return d, "no"
			}
			return d, output
		}
		after, ok := changeTold(copiedDesk(d), name, words)
		if !ok || !isValidTold(after) {
			return d, "no"
		}
		return after, "ok"
	}
	return d, "what"
}

// changeTold returns the desk behind a line that changes it.
func changeTold(d impl.Desk, name string, w wordsTold) (impl.Desk, bool) {
	ok := true
	switch name {
	case "line":
		d.Places, ok = impl.LinePlaces(w.n[0], w.n[1])
		d.Weights, d.Shots = ones(len(d.Places)), nil
	case "grid":
		d.Places, ok = impl.GridPlaces(w.n[0], w.n[1], w.n[2], w.n[3])
		d.Weights, d.Shots = ones(len(d.Places)), nil
	case "null":
		d.Weights, ok = impl.NullWeights(w.n[0], w.l)
		d.Places, _ = impl.LinePlaces(int64(len(d.Weights)), w.n[0])
		d.Shots = nil
	case "weights":
		d.Weights = w.c
	case "steer":
		d.Weights, ok = impl.SteeringOf(d.Places, impl.Direction{U: w.n[0], V: w.n[1]})
	case "taper":
		var taper []float32
		taper, ok = impl.TaperOf(w.n[0], int64(len(d.Weights)))
		for k, by := range taper {
			d.Weights[k] = impl.ScaleComplex(d.Weights[k], by)
		}
	case "round":
		d.Weights, ok = impl.RoundPhases(d.Weights, w.n[0])
	case "fail":
		if ok = w.n[0] >= 0 && w.n[0] < int64(len(d.Weights)); ok {
			d.Weights[w.n[0]] = 0
		}
	case "shot":
		d.Shots = append(d.Shots, w.c)
	}
	return d, ok
}

// outputTold returns what a line tells of a desk, which is empty for a line that changes
// it.
func outputTold(d impl.Desk, name string, w wordsTold) (string, bool) {
	switch name {
	case "power":
		power, one := impl.PowerAt(d.Places, d.Weights, impl.Direction{U: w.n[0], V: w.n[1]})
		tenths, two := impl.TenthsOf(power)
		return fmt.Sprint(tenths), one && two
	case "levels":
		cut, one := impl.CutOf(d.Places, d.Weights, w.n[0], w.n[1], w.n[2])
		levels, two := impl.LevelsOf(cut)
		return listTold(levels), one && two && len(levels) <= 64
	case "lobes":
		cut, one := impl.CutOf(d.Places, d.Weights, w.n[0], w.n[1], w.n[2])
		lobes, two := impl.LobesOf(cut)
		for k := range lobes {
			lobes[k] += w.n[1]
		}
		return listTold(lobes), one && two && len(lobes) <= 64
	case "scan":
		m, one := impl.CovarianceOf(d.Shots)
		cut, two := impl.ScanCut(m, d.Places, w.n[0], w.n[1], w.n[2])
		peak, three := impl.PeakOf(cut)
		return fmt.Sprint(w.n[1] + peak), one && two && three
	case "least":
		m, one := impl.CovarianceOf(d.Shots)
		cut, two := impl.LeastCut(m, d.Places, w.n[0], w.n[1], w.n[2])
		peak, three := impl.PeakOf(cut)
		return fmt.Sprint(w.n[1] + peak), one && two && three
	case "show":
		return weightsTold(d.Weights), true
	case "size":
		return fmt.Sprintf("%d,%d", len(d.Places), len(d.Shots)), true
	}
	return "", true
}

// listTold returns the text of integers.
func listTold(list []int64) string {
	if len(list) == 0 {
		return "none"
	}
	return strings.Trim(strings.ReplaceAll(fmt.Sprint(list), " ", ","), "[]")
}

// weightsTold returns the text of complex numbers.
func weightsTold(list []complex64) string {
	if len(list) == 0 {
		return "none"
	}
	var parts []string
	for _, x := range list {
		parts = append(parts, fmt.Sprintf("%08x%08x", bitsTold(real(x)), bitsTold(imag(x))))
	}
	return strings.Join(parts, ",")
}
