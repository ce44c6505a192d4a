package tests

import (
	"fmt"
	"strings"
	"testing"

	"loop.example/g01181/impl"
)

// withByte returns a text in which one byte is another.
func withByte(s string, at int, b byte) string {
	return s[:at] + string([]byte{b}) + s[at+1:]
}

// costsOneFrame fails the test unless changed bytes cost the frame k of a record, and
// no other one.
func costsOneFrame(t *testing.T, r impl.Record, changed string, k int) {
	t.Helper()
	isNoRecord(t, changed)
	before := impl.Record{Elements: r.Elements, Frames: r.Frames[:k]}
	isRecovered(t, changed, before, 5+k*sizeTold(int(r.Elements)))
	for n, f := range r.Frames {
		if n == k {
			f = impl.Frame{}
		}
		got, ok := impl.FrameAt(changed, int64(n))
		isFrame(t, fmt.Sprint("frame ", n, " with a change in ", k), got, ok, f)
	}
}

// Promise 11: a changed byte costs its frame alone.
func TestChangedBytesCostTheirFrame(t *testing.T) {
	for _, r := range []impl.Record{recordAt(1, 1, 0, 1, lastIndex), recordAt(2, 2, 7, 300, 70000), recordAt(3, 1, 5)} {
		s, size := storedTold(r), sizeTold(int(r.Elements))
		for at := 5; at < len(s); at++ {
			for by := 1; by < 256; by++ {
				costsOneFrame(t, r, withByte(s, at, s[at]+byte(by)), (at-5)/size)
			}
		}
	}
	for _, r := range []impl.Record{recordAt(4, 16, 100, 200), recordAt(5, 3, stepped(1, 1, 64)...)} {
		s, size := storedTold(r), sizeTold(int(r.Elements))
		for at := 5; at < len(s); at += 1 + len(s)/300 {
			for bit := range 8 {
				costsOneFrame(t, r, withByte(s, at, s[at]^1<<bit), (at-5)/size)
			}
		}
	}
}

// A frame is whole, but its index is not greater than the one before it.
func TestFramesThatCannotFollow(t *testing.T) {
	for elements := 1; elements <= 16; elements++ {
		for _, indices := range [][]int64{{5, 5}, {5, 4}, {5, 0}, {lastIndex, lastIndex}, {lastIndex, 3}, {1, 2, 2}, {1, 5, 3, 9}, {0, 0, 1, 2}} {
			r := recordAt(elements, elements, indices...)
			s, whole := storedTold(r), 1
			for indices[whole] > indices[whole-1] {
				whole++
			}
			isNoRecord(t, s)
			isRecovered(t, s, impl.Record{Elements: r.Elements, Frames: r.Frames[:whole]}, 5+whole*sizeTold(elements))
			for k, f := range r.Frames {
				got, ok := impl.FrameAt(s, int64(k))
				isFrame(t, fmt.Sprint("frame by its place ", k), got, ok, f)
			}
		}
	}
}

// Frames that are changed do not matter to those behind them, but are not passed over.
func TestFramesBehindChangedOnes(t *testing.T) {
	r := recordAt(6, 2, stepped(5, 5, 10)...)
	s, size := storedTold(r), sizeTold(2)
	for _, taken := range [][]int{{0}, {9}, {0, 1}, {3, 7}, {0, 9}, {1, 2, 3, 4, 5, 6, 7, 8}, {0, 1, 2, 3, 4, 5, 6, 7, 8, 9}} {
		changed, lost := s, map[int]bool{}
		for _, k := range taken {
			at := 5 + k*size + k
			changed, lost[k] = withByte(changed, at, changed[at]+1), true
		}
		isRecovered(t, changed, impl.Record{Elements: 2, Frames: r.Frames[:taken[0]]}, 5+taken[0]*size)
		isNoRecord(t, changed)
		for k, f := range r.Frames {
			if lost[k] {
				f = impl.Frame{}
			}
			got, ok := impl.FrameAt(changed, int64(k))
			isFrame(t, fmt.Sprint("frame ", k, taken), got, ok, f)
		}
	}
	// A byte more or less moves all places behind it.
	for _, moved := range []string{s[:5] + "x" + s[5:], s[:5] + s[6:]} {
		isNoRecord(t, moved)
		isRecovered(t, moved, impl.Record{Elements: 2}, 5)
		for k := range int64(11) {
			isNoFrame(t, moved, k)
		}
	}
}

func TestFrameAtRefuses(t *testing.T) {
	s := storedTold(recordAt(1, 2, 3, 4))
	for _, bytes := range []string{"", "ARR1", headTold(2), headTold(1), s, s[:30], s + "x", s + strings.Repeat("x", 1000)} {
		// Numbers whose product with the size of a frame is a place again by an overflow.
		for _, k := range append(farIntegers(), -3, -2, -1, 3, 4, 5, 100, 1<<61, 1<<63/22, 1<<63/11, -1<<63/11, 1<<32/22, -1<<62/11) {
			isNoFrame(t, bytes, k)
		}
	}
	isNoFrame(t, s, 2)
	isNoFrame(t, s[:len(s)-1], 1)
	isNoFrame(t, headTold(2), 0)
}

// isDifference fails the test unless texts differ first as told, both ways round.
func isDifference(t *testing.T, a, b string, frame, place int) {
	t.Helper()
	for range 2 {
		k, at, ok := impl.FirstDifference(a, b)
		isEqual(t, "difference", ok, true)
		isEqual(t, "difference", [2]int64{k, at}, [2]int64{int64(frame), int64(place)})
		a, b = b, a
	}
}

// isNoDifference fails the test unless texts have no difference, both ways round.
func isNoDifference(t *testing.T, a, b string) {
	t.Helper()
	for range 2 {
		k, at, ok := impl.FirstDifference(a, b)
		isEqual(t, fmt.Sprintf("no difference of %q and %q", a, b), ok, false)
		isEqual(t, "no difference", [2]int64{k, at}, [2]int64{})
		a, b = b, a
	}
}

func TestFirstDifference(t *testing.T) {
	for elements := 1; elements <= 16; elements++ {
		r := recordAt(elements, elements, 4, 5, 900)
		s, size := storedTold(r), sizeTold(elements)
		for at := 5; at < len(s); at++ {
			frame, place := (at-5)/size, (at-5)%size
			changed := withByte(s, at, s[at]^0x80)
			isDifference(t, s, changed, frame, place)
			isDifference(t, s, withByte(changed, len(s)-1, 'x'), frame, place)
			isDifference(t, s, changed+"more", frame, place)
			isDifference(t, s, changed[:at+1], frame, place)
			// One that ends within a frame, or just at its end.
			isDifference(t, s, s[:at], frame, place)
		}
		for length := 1; length <= 2*size+1; length++ {
			behind := strings.Repeat("x", length)
			isDifference(t, s, s+behind, 3, 0)
			isDifference(t, s[:6], s[:6]+behind, 1/size, 1%size)
			isDifference(t, s+behind, s+behind+"x", 3+length/size, length%size)
		}
		isDifference(t, headTold(elements), s, 0, 0)
		isNoDifference(t, s, s)
		isNoDifference(t, headTold(elements), headTold(elements))
		isNoDifference(t, s[:7], s[:7])
		isNoDifference(t, s+"x", s+"x")
	}
	isDifference(t, headTold(1)+"01234567890123", headTold(1)+"0123456789012", 0, 13)
	isDifference(t, headTold(1)+"01234567890123", headTold(1)+"01234567890123ab", 1, 0)
	isDifference(t, headTold(2)+"01234567890123", headTold(2)+"01234567890123ab", 0, 14)
	long := headTold(16) + strings.Repeat("x", 134*5000)
	isDifference(t, long, long+"x", 5000, 0)
	isDifference(t, long, long[:len(long)-1], 4999, 133)
	isNoDifference(t, long, long)
}

func TestFirstDifferenceRefuses(t *testing.T) {
	wrong := []string{"", "A", "ARR1", "ARR2\x01", "arr1\x01", "ARR1\x00", "ARR1\x11", "ARR1\xff", "ARR1\x00xyz", "ARR1\x11xyz", "xRR1\x01", "\x01ARR1"}
	for _, a := range wrong {
		for _, b := range append(wrong, headTold(1), storedTold(recordOf(1, 2)), a+"x", a+storedTold(recordOf(1, 2))) {
			isNoDifference(t, a, b)
		}
	}
	for a := range 18 {
		for b := range 18 {
			for _, behind := range []string{"", "x", "abcdefghijklmnopqrstuvwxyz"} {
				if a != b || a < 1 || a > 16 {
					isNoDifference(t, headTold(a), headTold(b)+behind)
					isNoDifference(t, headTold(a)+"xyz", headTold(b)+behind)
				}
			}
		}
	}
}
