package tests

import (
	"fmt"
	"slices"
	"strings"
	"testing"

	"loop.example/g01181/impl"
)

// journalTold returns the journal of lines. As each check number begins with the one
// before, it is that of all bytes of the lines up to it.
func journalTold(lines []string) string {
	var journal strings.Builder
	check := 0
	for _, line := range lines {
		for range len(line) {
			check = check * 641 % 65003
		}
		check = (check + int(checkTold(line))) % 65003
		fmt.Fprintf(&journal, "%d %s\n", check, line)
	}
	return journal.String()
}

// recoveredTold returns the most lines whose journal a text begins with, by trying all
// numbers of lines.
func recoveredTold(s string) []string {
	var lines, most []string
	for _, stored := range strings.SplitAfter(s, "\n") {
		_, line, _ := strings.Cut(stored, " ")
		lines = append(lines, strings.TrimSuffix(line, "\n"))
		if strings.HasPrefix(s, journalTold(lines)) {
			most = slices.Clone(lines)
		}
	}
	return most
}

// isJournal fails the test unless lines have the told journal, and are recovered from it.
func isJournal(t *testing.T, lines ...string) {
	t.Helper()
	want := journalTold(lines)
	got, ok := impl.JournalOf(lines)
	what := fmt.Sprintf("journal of %d lines, %.200q", len(lines), strings.Join(lines, "|"))
	isEqual(t, what, ok, true)
	isBytes(t, what, got, want)
	isIntact(t, want, lines)
}

// isNoJournal fails the test unless lines have no journal.
func isNoJournal(t *testing.T, lines ...string) {
	t.Helper()
	got, ok := impl.JournalOf(lines)
	what := fmt.Sprintf("no journal of %d lines, %.200q", len(lines), strings.Join(lines, "|"))
	isEqual(t, what, ok, false)
	isBytes(t, what, got, "")
}

// isIntact fails the test unless a text begins with the journal of lines, and of no more.
func isIntact(t *testing.T, s string, lines []string) {
	t.Helper()
	got, length, ok := impl.RecoverJournal(s)
	what := fmt.Sprintf("lines of %.200q", s)
	isEqual(t, what, ok, true)
	if !slices.Equal(got, lines) {
		t.Errorf("%s: got %q, want %q", what, got, lines)
	}
	isEqual(t, what+", bytes", length, int64(len(journalTold(lines))))
}

// isNotRecovered fails the test unless a text is refused.
func isNotRecovered(t *testing.T, s string) {
	t.Helper()
	got, length, ok := impl.RecoverJournal(s)
	isEqual(t, "too long a text", ok, false)
	isEqual(t, "too long a text", len(got), 0)
	isEqual(t, "too long a text", length, 0)
}

// someLines returns lines of desks, blanks, empty lines and other bytes.
func someLines() []string {
	return []string{"line 2 32", "", "a b  c", " ", "  x ", "", "\x00\xff\r\t", "124 a", "0", "steer 32 0", "weights 3f80000000000000,000000003f800000", "\u00e9\u6f22"}
}

// The example of the given tests, and check numbers that are told byte by byte.
func TestJournalsOfFewLines(t *testing.T) {
	cases := []struct {
		lines []string
		want  string
	}{
		{nil, ""},
		{[]string{""}, "0 \n"},
		{[]string{"", "", ""}, "0 \n0 \n0 \n"},
		{[]string{"a"}, "124 a\n"},
		{[]string{"a", ""}, "124 a\n124 \n"},
		{[]string{"", "a"}, "0 \n124 a\n"},
		{[]string{"a", "b"}, fmt.Sprintf("124 a\n%d b\n", (641*124+'b'+27)%65003)},
		{[]string{"ab"}, fmt.Sprintf("%d ab\n", (641*124+'b'+27)%65003)},
		{[]string{" "}, "59  \n"},
		{[]string{"\xff"}, "282 \xff\n"},
	}
	for _, c := range cases {
		isJournal(t, c.lines...)
		isBytes(t, "told journal", journalTold(c.lines), c.want)
	}
}

// Promise 12: the journal of any lines without newlines is recovered whole.
func TestJournals(t *testing.T) {
	isJournal(t, someLines()...)
	for k := range someLines() {
		isJournal(t, someLines()[:k]...)
		isJournal(t, someLines()[k:]...)
		isJournal(t, someLines()[k], someLines()[k], someLines()[k])
	}
	for b := range 256 {
		s := string([]byte{byte(b)})
		if b == '\n' {
			continue
		}
		isJournal(t, s)
		isJournal(t, s+s, "x"+s, "", s+" y")
	}
	for seed := range 500 {
		d := drawerFrom(seed)
		var lines []string
		for range d.from(0, 30) {
			lines = append(lines, d.line(int(d.from(1, 5))))
		}
		isJournal(t, lines...)
	}
}

func TestJournalsRefuseNewlines(t *testing.T) {
	for _, line := range []string{"\n", "a\nb", "a\n", "\na", "\r\n", "\n\n", "124 a\n124 "} {
		isNoJournal(t, line)
		for k := range 4 {
			lines := []string{"a", "", "b"}
			isNoJournal(t, slices.Insert(lines, k, line)...)
		}
	}
}

// endingAt returns lines behind some others, the last one as long as it must be for a
// journal of some bytes.
func endingAt(size int, lines ...string) []string {
	left := size - len(journalTold(lines))
	// The check number of the last line has 1 to 5 digits.
	for length := left - 7; length <= left-3; length++ {
		all := append(slices.Clone(lines), strings.Repeat("z", max(length, 0)))
		if len(journalTold(all)) == size {
			return all
		}
	}
	return nil
}

// Journals have at most 6000 bytes, and so have texts that are recovered.
func TestLongJournals(t *testing.T) {
	found := 0
	for _, before := range [][]string{nil, {""}, {"a"}, someLines(), slices.Repeat([]string{"fail 0"}, 400), slices.Repeat([]string{""}, 1900)} {
		for _, size := range []int{5998, 5999, 6000} {
			if lines := endingAt(size, before...); lines != nil {
				found++
				isJournal(t, lines...)
				isNotRecovered(t, journalTold(lines)+"xyz")
				more := slices.Clone(lines)
				more[len(more)-1] += "zzzzz"
				isNoJournal(t, more...)
				isNoJournal(t, append(lines, "")...)
				isNoJournal(t, append([]string{""}, lines...)...)
			}
		}
		for _, size := range []int{6001, 6002, 6003, 7000} {
			if lines := endingAt(size, before...); lines != nil {
				found++
				isNoJournal(t, lines...)
				isNotRecovered(t, journalTold(lines))
			}
		}
	}
	isEqual(t, "long journals", found > 20, true)
	isJournal(t, slices.Repeat([]string{""}, 2000)...)
	isNoJournal(t, slices.Repeat([]string{""}, 2001)...)
	isNoJournal(t, slices.Repeat([]string{""}, 100000)...)
	isNoJournal(t, strings.Repeat("x", 1000000))
	isNoJournal(t, strings.Repeat("x", 6000))
	isNoJournal(t, strings.Repeat("x", 6000), "")
}

// Texts of exactly 6000 bytes are recovered, also where they are no journals.
func TestLongTexts(t *testing.T) {
	for _, part := range []string{"x", "\n", " ", "0", "\x00"} {
		long := strings.Repeat(part, 6000)
		isIntact(t, long, nil)
		isNotRecovered(t, long+"x")
		isNotRecovered(t, long+"\n")
		isNotRecovered(t, long+long)
		s := journalTold(someLines())
		isIntact(t, s+long[len(s):], someLines())
		isNotRecovered(t, s+long[len(s)-1:])
	}
	isIntact(t, strings.Repeat("0 \n", 2000), slices.Repeat([]string{""}, 2000))
	isNotRecovered(t, strings.Repeat("0 \n", 2000)+"0")
}

// Promise 12: a journal that is cut at any place keeps its whole lines.
func TestCutJournals(t *testing.T) {
	s := journalTold(someLines())
	for end := range len(s) + 1 {
		whole := strings.Count(s[:end], "\n")
		isIntact(t, s[:end], someLines()[:whole])
		isIntact(t, s[:end]+s, recoveredTold(s[:end]+s))
		if end > 0 {
			isIntact(t, s[end:], recoveredTold(s[end:]))
		}
	}
}

// Promise 12: a journal in which one byte is another keeps the lines before it.
func TestChangedJournals(t *testing.T) {
	s := journalTold(someLines())
	for at := range len(s) {
		before := someLines()[:strings.Count(s[:at], "\n")]
		for by := 1; by < 256; by++ {
			isIntact(t, withByte(s, at, s[at]+byte(by)), before)
		}
		isIntact(t, s[:at]+s[at+1:], recoveredTold(s[:at]+s[at+1:]))
	}
}

// Check numbers that are not in decimal are none, nor are lines behind them.
func TestCheckNumbersOfJournals(t *testing.T) {
	behind := "124 \n"
	for _, first := range []string{
		"0124 a\n", "+124 a\n", "-124 a\n", " 124 a\n", "124\ta\n", "124a\n", "124\n", "124.0 a\n", "1.24e2 a\n", "0x7c a\n", "7c a\n", "124, a\n", "12 4 a\n", "124  a\n", "124 a \n", "124 a\r\n",
		"a 124\n", "65127 a\n", "-64879 a\n", "123 a\n", "125 a\n", "0 a\n", " a\n", "a\n", "\n", " \n", "none a\n", "\u0661\u0662\u0664 a\n", "124 b\n", "124 A\n", "124 aa\n", "124 \n",
		"00 \n", "-0 \n", "+0 \n", "65003 \n", "0\n", "0  \n",
	} {
		isIntact(t, first, nil)
		isIntact(t, first+behind, nil)
		isIntact(t, first+journalTold([]string{"a", "b"}), nil)
		isIntact(t, "0 \n"+first+behind, []string{""})
		isIntact(t, "0 \n124 a\n"+strings.Replace(first, "124", "999", 1)+behind, []string{"", "a"})
	}
	isIntact(t, "124 a\n"+behind, []string{"a", ""})
	isIntact(t, "124 a\n"+behind+"xx", []string{"a", ""})
}

// Lines behind one with another check number are lost, although they are right in a
// journal without it.
func TestLinesBehindAWrongOne(t *testing.T) {
	stored := strings.SplitAfter(journalTold(someLines()), "\n")
	for k := range someLines() {
		for _, wrong := range []string{"1 wrong\n", "wrong\n", "\n", stored[k][:len(stored[k])-1] + "x\n", "9" + stored[k], "x" + stored[k], " " + stored[k], "0" + stored[k]} {
			s := strings.Join(stored[:k], "") + wrong + strings.Join(stored[k:], "")
			isIntact(t, s, someLines()[:k])
			isEqual(t, "lines by trying", len(recoveredTold(s)), k)
		}
		// A line that is left out, unless it is empty, changes all check numbers behind it.
		s := strings.Join(stored[:k], "") + strings.Join(stored[k+1:], "")
		if someLines()[k] != "" && k+1 < len(someLines()) && someLines()[k+1] != "" {
			isIntact(t, s, someLines()[:k])
		}
		isIntact(t, s, recoveredTold(s))
	}
}

// Any text is a beginning, and then something else.
func TestAnyTextsAreRecovered(t *testing.T) {
	isIntact(t, "", nil)
	parts := []string{"0", "1", "124", " ", "\n", "a", "x", "0 \n", "124 a\n", "124 \n", "\xff", "\x00"}
	for seed := range 4000 {
		d := drawerFrom(seed)
		s := ""
		for range d.from(0, 12) {
			s += parts[d.from(0, int64(len(parts)-1))]
		}
		isIntact(t, s, recoveredTold(s))
		isIntact(t, journalTold([]string{"a", "b", ""})+s, recoveredTold(journalTold([]string{"a", "b", ""})+s))
	}
}
