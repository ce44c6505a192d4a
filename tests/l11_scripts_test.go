package tests

import (
	"fmt"
	"strings"
	"testing"

	"loop.example/g01181/impl"
)

// scriptTold returns the desk behind a script, and its outputs, line by line.
func scriptTold(d impl.Desk, script string) (impl.Desk, string) {
	var outputs strings.Builder
	for script != "" {
		end := strings.IndexByte(script, '\n')
		after, output := answerTold(d, script[:end])
		d = after
		outputs.WriteString(output + "\n")
		script = script[end+1:]
	}
	return d, outputs.String()
}

// isScript fails the test unless a script outputs what is told, and leaves the desk want.
func isScript(t *testing.T, d impl.Desk, script, outputs string, want impl.Desk) {
	t.Helper()
	before := textOfDesk(d)
	got, out, ok := impl.RunDesk(d, script)
	isDesk(t, fmt.Sprintf("desk behind %.200q", script), got, ok, want)
	isBytes(t, fmt.Sprintf("outputs of %.200q", script), out, outputs)
	isEqual(t, "desk before the script", textOfDesk(d), before)
}

// isNoScript fails the test unless a script fails.
func isNoScript(t *testing.T, d impl.Desk, script string) {
	t.Helper()
	isScript(t, d, script, "", impl.Desk{})
}

// isScriptTold fails the test unless a script does what its lines do.
func isScriptTold(t *testing.T, d impl.Desk, script string) {
	t.Helper()
	want, outputs := scriptTold(d, script)
	isScript(t, d, script, outputs, want)
}

// The examples of the document.
func TestExamplesOfDesks(t *testing.T) {
	two := impl.Desk{Places: []impl.Place{{}, {X: 32}}, Weights: ones(2)}
	isScript(t, impl.NewDesk(), "line 2 32\npower 0 0\nlobes 0 -64 64\n", "ok\n60\n0\n", two)
	two.Weights = []complex64{1, complex(0, 1)}
	isScript(t, impl.NewDesk(), "line 2 32\nsteer 32 0\nshow\n", "ok\nok\n3f80000000000000,000000003f800000\n", two)
}

// Promise 12: lines that are answered with no or what change nothing for those behind.
func TestScriptsWithWrongLines(t *testing.T) {
	two := impl.Desk{Places: []impl.Place{{}, {X: 32}}, Weights: ones(2)}
	isScript(t, impl.NewDesk(), "size\nline 0 32\nsize\n", "1,0\nno\n1,0\n", impl.NewDesk())
	isScript(t, impl.NewDesk(), "size\nfly\nsize\n", "1,0\nwhat\n1,0\n", impl.NewDesk())
	isScript(t, impl.NewDesk(), "line 2 32\nline 3 0\ngrid 2 2 0 0\nnull 0 1\nsize\n", "ok\nno\nno\nno\n2,0\n", two)
	isScript(t, two, "show\nfail 2\nshow\n\nshow\nweights 3f80000000000000\nshow\n",
		"3f80000000000000,3f80000000000000\nno\n3f80000000000000,3f80000000000000\nwhat\n3f80000000000000,3f80000000000000\nno\n3f80000000000000,3f80000000000000\n", two)
	isScript(t, two, "shot 3f80000000000000\nsize\nshot \nsize\nshot none\nsize\n", "no\n2,0\nno\n2,0\nno\n2,0\n", two)
	for _, wrong := range []string{"", " ", "fly", "fail 9", "line 2 0", "show ", " show", "\xff", "shot none", "taper 9", "round 0", "steer 64 64", "power 9", "weights none"} {
		for _, line := range goodLines() {
			d := twoWithShots()
			isScriptTold(t, d, line+"\n"+wrong+"\n"+line+"\n")
			isScriptTold(t, d, wrong+"\n"+line+"\n"+wrong+"\n"+"show\nsize\n")
		}
	}
}

// Scripts are empty, or end with a newline.
func TestEndsOfScripts(t *testing.T) {
	for _, d := range someDesks() {
		isScript(t, d, "", "", d)
		isScript(t, d, "\n", "what\n", d)
		isScript(t, d, "\n\n", "what\nwhat\n", d)
		isScript(t, d, " \n  \n", "what\nwhat\n", d)
		isScript(t, d, "\r\n", "what\n", d)
		isScript(t, d, "show\r\n", "what\n", d)
		for _, script := range []string{"show", " ", "x", "\r", "\nshow", "show\nshow", "show\n ", "show\n\r", "show\n\x00", "line 2 32", "line 2 32\nsize\nfail 0", "\x00", "\xff"} {
			isNoScript(t, d, script)
			isScriptTold(t, d, script+"\n")
		}
	}
	script := strings.Join(goodLines(), "\n") + "\n"
	for end := range len(script) + 1 {
		if end == 0 || script[end-1] == '\n' {
			isScriptTold(t, twoWithShots(), script[:end])
			continue
		}
		isNoScript(t, twoWithShots(), script[:end])
	}
}

// Scripts have at most 6000 bytes.
func TestLongScripts(t *testing.T) {
	d := deskWith(1, 0)
	for _, line := range []string{"\n", "x\n", "size\n", "show\n", "fly 9\n", "power 0 0\n", "steer 5 5\n"} {
		script := strings.Repeat(line, 6001)
		whole := script[:6000/len(line)*len(line)]
		whole = strings.Repeat("\n", 6000-len(whole)) + whole
		isEqual(t, "bytes", len(whole), 6000)
		isScriptTold(t, d, whole)
		isNoScript(t, d, "\n"+whole)
		isNoScript(t, d, whole+"\n")
		isNoScript(t, d, whole+"x")
		isNoScript(t, d, whole+line)
		isNoScript(t, d, script+script)
	}
	for _, name := range []string{"fly ", "line 2 ", "shot ", ""} {
		whole := name + strings.Repeat("7", 5999-len(name)) + "\n"
		isScriptTold(t, d, whole)
		isNoScript(t, d, "7"+whole)
		isNoScript(t, d, name+"7"+whole[len(name):])
		isNoScript(t, d, whole[:5999]+"7")
	}
	isNoScript(t, d, strings.Repeat("\n", 100000))
}

// Any bytes but newlines are bytes of a line.
func TestScriptsOfAnyBytes(t *testing.T) {
	for b := range 256 {
		for _, script := range []string{"line 2 32\nshow\n", "steer 1 2\nshow\n", "fail 0\nsize\n", "shot 3f80000000000000,3f80000000000000\nsize\n"} {
			for at := range len(script) - 1 {
				isScriptTold(t, deskWith(complex(2, 1), 1), withByte(script, at, byte(b)))
			}
			if b != '\n' {
				isNoScript(t, deskWith(1, 1), withByte(script, len(script)-1, byte(b)))
			}
		}
	}
}

// lines draws lines of all forms, whose words are mostly good ones.
func (d *drawer) line(places int) string {
	names := []string{"line", "grid", "null", "weights", "steer", "taper", "round", "fail", "shot", "shot", "shot", "shot", "power", "levels", "lobes", "scan", "least", "show", "size", "fly"}
	name := names[d.from(0, int64(len(names)-1))]
	small := func(least, greatest int64) string { return fmt.Sprint(d.from(least, greatest)) }
	switch name {
	case "line":
		return name + " " + small(0, 9) + " " + small(-40, 40)
	case "grid":
		return name + " " + small(0, 4) + " " + small(1, 3) + " " + small(-3, 40) + " " + small(-3, 40)
	case "null":
		return name + " " + small(0, 64) + " " + listTold(stepped(d.from(-65, 0), d.from(1, 20), int(d.from(0, 5))))
	case "weights", "shot":
		if d.from(0, 9) == 0 {
			places = int(d.from(0, 3))
		}
		return name + " " + weightsTold(drawn(uint32(d.from(0, 1<<20)), places))
	case "taper", "round":
		return name + " " + small(0, 4)
	case "fail":
		return name + " " + small(-1, 9)
	case "steer", "power":
		return name + " " + small(-50, 50) + " " + small(-50, 50)
	case "levels", "lobes", "scan", "least":
		from := d.from(-50, 50)
		return name + " " + small(-40, 40) + " " + fmt.Sprint(from, " ", from+d.from(-1, 20))
	}
	return name + strings.Repeat(" ", int(d.from(0, 9)/9))
}

// Promises 12 and 13: scripts do what their lines do, and what desks output is what the
// functions tell.
func TestDrawnScripts(t *testing.T) {
	answers := map[string]int{}
	for seed := range 400 {
		drawn := drawerFrom(seed)
		start := deskOf(seed, 1+seed%9, seed%4)
		d, script, outputs := start, "", ""
		for {
			line := drawn.line(len(d.Places))
			if len(script)+len(line) >= 3000 {
				break
			}
			after, output := answerTold(d, line)
			isAnswered(t, d, line, output, after)
			d, script, outputs = after, script+line+"\n", outputs+output+"\n"
			answers[strings.SplitN(line, " ", 2)[0]+" "+kindOfOutput(output)]++
		}
		isScript(t, start, script, outputs, d)
	}
	for name := range forms {
		isEqual(t, name+" carried out", answers[name+" ok"]+answers[name+" told"] > 20, true)
		isEqual(t, name+" refused", answers[name+" no"]+answers[name+" what"] > 20, true)
	}
}

// kindOfOutput returns a word for an output that tells something.
func kindOfOutput(output string) string {
	if output == "ok" || output == "no" || output == "what" {
		return output
	}
	return "told"
}

// A script is carried out like its parts, one after another.
func TestPartsOfScripts(t *testing.T) {
	lines := append(goodLines(), "fly", "", "fail 1", "line 2 0", "size")
	for k := range len(lines) + 1 {
		one, two := strings.Join(append(lines[:k:k], ""), "\n"), strings.Join(append(lines[k:len(lines):len(lines)], ""), "\n")
		between, first, _ := impl.RunDesk(twoWithShots(), one)
		last, second, _ := impl.RunDesk(between, two)
		isScript(t, twoWithShots(), one+two, first+second, last)
	}
}
