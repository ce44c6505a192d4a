package tests

import (
	"fmt"
	"strings"
	"testing"

	"loop.example/g01181/impl"
)

// goodLines returns a line of each form that is carried out at twoWithShots.
func goodLines() []string {
	one := weightsTold(ones(2))
	return []string{
		"line 2 32", "grid 2 2 8 9", "null 32 5,7", "weights " + one, "steer 3 4", "taper 1", "round 3", "fail 1", "shot " + one,
		"power 1 2", "levels 1 2 3", "lobes 1 2 3", "scan 1 2 3", "least 1 2 3", "show", "size",
	}
}

// twoWithShots returns a desk of two elements with shots that have least powers.
func twoWithShots() impl.Desk {
	return withShots(deskOf(2, 2, 0), []complex64{1, 0}, []complex64{0, 1})
}

// isLikeTold fails the test unless a line does what the second desk tells.
func isLikeTold(t *testing.T, d impl.Desk, line string) {
	t.Helper()
	want, output := answerTold(d, line)
	isAnswered(t, d, line, output, want)
}

// Each form of the table is known.
func TestGoodLines(t *testing.T) {
	isEqual(t, "forms", len(goodLines()), len(forms))
	for _, line := range goodLines() {
		want, output := answerTold(twoWithShots(), line)
		isEqual(t, line, output == "no" || output == "what", false)
		isAnswered(t, twoWithShots(), line, output, want)
	}
}

// Lines of no form are answered with what, and change nothing.
func TestLinesThatAreNone(t *testing.T) {
	lines := []string{
		"", " ", "  ", "     ", "\t", "\n", "\r", "\x00", "\xff", "fly", "ok", "no", "what", "0", "none", ",", "command", "desk", "journal",
		"Line 2 32", "LINE 2 32", "SHOW", "Size", "lin 2 32", "lines 2 32", "line2 32", "line2,32", "line,2,32", "shows", "siz", "sho", "sizes",
		"show\n", "size\n", "show\r", "size\t", "\tshow", "show\x00", "\xffsize", "show size", "show,size", "size;show",
		"line\t2\t32", "grid 2 1", "grid 2 1 8", "grid 2 1 8 9 9", "null 32", "null 32 5 7", "null", "weight 3f80000000000000", "ring 3 5", "shift 1 1",
		"power 1", "power 1 2 3", "levels 1 2", "lobes 1", "scan", "least 1 2 3 4", "steer", "steer 1", "taper", "round", "fail", "shot", "weights", "line",
	}
	for _, d := range []impl.Desk{impl.NewDesk(), twoWithShots(), deskOf(3, 16, 64)} {
		for _, line := range lines {
			isTold(t, d, line, "what")
		}
	}
}

// Blanks at the beginning, at the end and twice in a row make empty words, so that a line
// has another form.
func TestBlanksInLines(t *testing.T) {
	d := twoWithShots()
	for _, line := range goodLines() {
		for at := range len(line) + 1 {
			if at == 0 || at == len(line) || line[at] == ' ' {
				isTold(t, d, line[:at]+" "+line[at:], "what")
				isTold(t, d, line[:at]+"  "+line[at:], "what")
			} else {
				isLikeTold(t, d, line[:at]+" "+line[at:])
			}
		}
	}
}

// Words that are empty, in lines that have as many as they must, are refused.
func TestEmptyWords(t *testing.T) {
	d := twoWithShots()
	for _, line := range goodLines() {
		words := strings.Split(line, " ")
		for k := range words {
			fewer := append([]string{}, words...)
			fewer[k] = ""
			output := "no"
			if k == 0 {
				output = "what"
			}
			isTold(t, d, strings.Join(fewer, " "), output)
		}
		if count := len(words) - 1; count > 0 {
			isTold(t, d, words[0]+strings.Repeat(" ", count), "no")
			isTold(t, d, words[0]+strings.Repeat(" ", count-1), "what")
			isTold(t, d, words[0]+strings.Repeat(" ", count+1), "what")
		}
	}
}

// Words that are missing, too many or at another place make other lines.
func TestOtherNumbersOfWords(t *testing.T) {
	d := twoWithShots()
	for _, line := range goodLines() {
		words := strings.Split(line, " ")
		for k := range words {
			missing := strings.Join(append(append([]string{}, words[:k]...), words[k+1:]...), " ")
			isTold(t, d, missing, "what")
			twice := strings.Join(append(append([]string{}, words[:k+1]...), words[k:]...), " ")
			isTold(t, d, twice, "what")
			turned := strings.Join(append(append([]string{}, words[k:]...), words[:k]...), " ")
			isLikeTold(t, d, turned)
		}
		for _, more := range []string{" 1", " none", " ok", " 1 2 3 4 5"} {
			isTold(t, d, line+more, "what")
		}
	}
}

// Numbers are taken as ReadDecimal reads them, at each place of each form.
func TestNumbersInLines(t *testing.T) {
	d := twoWithShots()
	odd := []string{
		"", "-", "+", "+1", "01", "-0", "00", "-01", "1.0", "1.", ".5", "1e0", "0x1", "0b1", "1_0", "1,", ",1", "none", "one", "a", "1a", "a1", "\t1", "1\t", "1\n", "\n1", "1\r",
		"\xff", "1\xff", "\x001", "\u0661", "\uff11", "--1", "-+1", "1-", "NaN", "inf", "1000000000000001", "-1000000000000001", "10000000000000000", "9223372036854775807", "9223372036854775808",
		"-9223372036854775809", "18446744073709551617", "340282366920938463463374607431768211457", "3f800000", "1/1", "(1)", "'1'",
	}
	for _, line := range goodLines() {
		words := strings.Split(line, " ")
		kinds := forms[words[0]]
		for k := range kinds {
			if kinds[k] != 'n' {
				continue
			}
			for _, word := range odd {
				other := append([]string{}, words...)
				other[k+1] = word
				isTold(t, d, strings.Join(other, " "), "no")
			}
			for n := -70; n < 70; n++ {
				other := append([]string{}, words...)
				other[k+1] = fmt.Sprint(n)
				isLikeTold(t, d, strings.Join(other, " "))
			}
			for _, word := range []string{"1000000000000000", "-1000000000000000", "4096", "-4096", "4097", "4294967296", "4294967297"} {
				other := append([]string{}, words...)
				other[k+1] = word
				isLikeTold(t, d, strings.Join(other, " "))
			}
		}
	}
}

// Lists and complex numbers are taken as ReadList and ReadComplex read them.
func TestListsInLines(t *testing.T) {
	d := twoWithShots()
	for _, list := range []string{"", ",", "1,", ",1", "1,,2", "1;2", "1,2,", "None", "none,", "none,1", "1,none", "NONE", "nil", "01", "1,02", "+1", "-0", "1.5", "x", "[1,2]", "1\n", "1,\xff", "none\n", "1000000000000001"} {
		isTold(t, d, "null 32 "+list, "no")
	}
	one := "3f80000000000000"
	wrong := []string{
		"", ",", one, one + ",", "," + one, one + "," + one + ",", one + ",," + one, one + ";" + one, one + one, "none", "none,", one + ",none", "None", "0,0", "1,1",
		one + ",3f8000000000000", one + ",3f800000000000000", one + ",3F80000000000000", one + ",3g80000000000000", one + ",+f80000000000000", one + ",0x80000000000000",
		one + ",7fc0000100000000", one + ",00000000ffc00000", one + ",7f80000100000000", one + "," + one + "," + one, one + ",\xff" + one[1:], one + "," + one + "\n", one + "," + one + "\r",
	}
	for _, name := range []string{"weights ", "shot "} {
		for _, word := range wrong {
			isTold(t, d, name+word, "no")
		}
		for _, word := range []string{one + "," + one, "7fc0000000000000,0000000080000000", "ff8000007f800000,00000001ffffffff", "7f7fffff807fffff,abcdef0189abcdef"} {
			isLikeTold(t, d, name+word)
		}
	}
}

// Very long lines are lines like others.
func TestLongLines(t *testing.T) {
	d := twoWithShots()
	for _, part := range []string{" ", "x", "1", "0", "line ", "1,", "3f80000000000000,", "\n", "\xff"} {
		long := strings.Repeat(part, 20000)
		isTold(t, d, long, "what")
		isTold(t, d, "show"+long, "what")
		isTold(t, d, "line 2 "+long+"2 3", "what")
		if !strings.Contains(part, " ") {
			isTold(t, d, "line 2 "+long, "no")
			isTold(t, d, "null 2 "+long, "no")
			isTold(t, d, "shot "+long, "no")
			isTold(t, d, "weights "+long+"3f80000000000000", "no")
		}
	}
}
