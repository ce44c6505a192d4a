package tests

import (
	"encoding/binary"
	"fmt"
	"math"
	"slices"
	"testing"

	"loop.example/g01181/impl"
)

// headTold returns the bytes before all frames.
func headTold(elements int) string {
	return "ARR1" + string([]byte{byte(elements)})
}

// checkTold returns the check number of a text that begins with 0, by division of a
// number of any length in the end.
func checkTold(s string) uint16 {
	sum, power := uint64(0), uint64(1)
	for k := len(s) - 1; k >= 0; k-- {
		sum += power * (uint64(s[k]) + 27) % 65003
		power = power * 641 % 65003
	}
	return uint16(sum % 65003)
}

// frameOfWords returns the bytes of words, and their check number, whether they are a
// frame or not.
func frameOfWords(words ...uint32) string {
	var stored []byte
	for _, w := range words {
		stored = binary.LittleEndian.AppendUint32(stored, w)
	}
	return string(binary.LittleEndian.AppendUint16(stored, checkTold(string(stored))))
}

// bitsTold returns the bits of a number, those of one not-a-number for all.
func bitsTold(x float32) uint32 {
	if isNot(x) {
		return 0x7fc00000
	}
	return math.Float32bits(x)
}

// storedTold returns the bytes of a record.
func storedTold(r impl.Record) string {
	s := headTold(int(r.Elements))
	for _, f := range r.Frames {
		words := []uint32{uint32(f.Index)}
		for _, x := range f.Shot {
			words = append(words, bitsTold(real(x)), bitsTold(imag(x)))
		}
		s += frameOfWords(words...)
	}
	return s
}

// sizeTold returns how many bytes a frame has.
func sizeTold(elements int) int { return 8*elements + 6 }

// isBytes fails the test unless got is want.
func isBytes(t *testing.T, what, got, want string) {
	t.Helper()
	if got != want {
		t.Errorf("%s: got %q, want %q", what, got, want)
	}
}

// isStored fails the test unless a record is stored as told, and loaded, recovered and
// taken frame by frame as it was.
func isStored(t *testing.T, r impl.Record) {
	t.Helper()
	s, ok := impl.StoreRecord(r)
	isEqual(t, "stored", ok, true)
	isBytes(t, "stored bytes", s, storedTold(r))
	got, ok := impl.LoadRecord(s)
	isRecord(t, "loaded", got, ok, r)
	isEqual(t, "the same record", impl.SameRecord(got, r), true)
	isRecovered(t, s, r, len(s))
	for k, f := range r.Frames {
		got, ok := impl.FrameAt(s, int64(k))
		isFrame(t, fmt.Sprint("frame ", k), got, ok, f)
	}
	isNoFrame(t, s, int64(len(r.Frames)))
}

// isRecovered fails the test unless bytes are recovered as told, which fails where want
// has no elements.
func isRecovered(t *testing.T, s string, want impl.Record, length int) {
	t.Helper()
	got, n, ok := impl.RecoverRecord(s)
	isRecord(t, "recovered", got, ok, want)
	isEqual(t, "recovered bytes", n, int64(length))
}

// isNoRecord fails the test unless bytes are not loaded.
func isNoRecord(t *testing.T, s string) {
	t.Helper()
	got, ok := impl.LoadRecord(s)
	isRecord(t, fmt.Sprintf("no record %q", s), got, ok, impl.Record{})
}

// isNoFrame fails the test unless bytes have no frame k.
func isNoFrame(t *testing.T, s string, k int64) {
	t.Helper()
	got, ok := impl.FrameAt(s, k)
	isFrame(t, fmt.Sprintf("no frame %d of %q", k, s), got, ok, impl.Frame{})
}

func TestFrameSize(t *testing.T) {
	for elements := 1; elements <= 16; elements++ {
		got, ok := impl.FrameSize(int64(elements))
		isEqual(t, "size", ok, true)
		isEqual(t, fmt.Sprint("size ", elements), got, int64(sizeTold(elements)))
		one, _ := impl.StoreRecord(recordAt(1, elements, 1))
		isEqual(t, fmt.Sprint("bytes ", elements), len(one), 5+sizeTold(elements))
	}
	got, _ := impl.FrameSize(2)
	isEqual(t, "size of 2 elements", got, 22)
	for _, elements := range wrongElements() {
		got, ok := impl.FrameSize(elements)
		isEqual(t, fmt.Sprint("no size ", elements), ok, false)
		isEqual(t, "no size", got, 0)
	}
}

func TestStoreRecord(t *testing.T) {
	cases := []struct {
		r    impl.Record
		want string
	}{
		{impl.Record{Elements: 2}, "ARR1\x02"},
		{impl.Record{Elements: 16}, "ARR1\x10"},
		{recordOf(2, 1), "ARR1\x01" + "\x02\x00\x00\x00" + "\x00\x00\x80\x3f" + "\x00\x00\x00\x00"},
		{recordOf(lastIndex, -2), "ARR1\x01" + "\x40\x42\x0f\x00" + "\x00\x00\x00\xc0" + "\x00\x00\x00\x00"},
		{impl.Record{Elements: 1, Frames: []impl.Frame{{Index: 258, Shot: []complex64{complex(bits32(0x01020304), bits32(0xf5f6f7f8))}}}},
			"ARR1\x01" + "\x02\x01\x00\x00" + "\x04\x03\x02\x01" + "\xf8\xf7\xf6\xf5"},
	}
	for _, c := range cases {
		got, ok := impl.StoreRecord(c.r)
		want := c.want
		if len(c.r.Frames) > 0 {
			check, _ := impl.CheckOf(0, want[5:])
			want += string([]byte{byte(check % 256), byte(check / 256)})
		}
		isEqual(t, "stored", ok, true)
		isBytes(t, "stored bytes", got, want)
		isStored(t, c.r)
	}
	for _, wrong := range wrongRecords() {
		got, ok := impl.StoreRecord(wrong)
		isEqual(t, "wrong record "+textOfRecord(wrong), ok, false)
		isBytes(t, "wrong record", got, "")
	}
}

// Promise 11: records are loaded as they were.
func TestStoredRecordsAreLoaded(t *testing.T) {
	for elements := 1; elements <= 16; elements++ {
		for _, count := range []int{0, 1, 2, 3, 63, 64} {
			isStored(t, recordAt(elements, elements, stepped(0, 15873, count)...))
			isStored(t, recordAt(elements, elements, stepped(lastIndex-int64(max(count-1, 0)), 1, count)...))
		}
	}
	for seed := range 300 {
		d := drawerFrom(seed)
		var indices []int64
		for n := d.from(0, 900000); n <= lastIndex && len(indices) < seed%65; n += d.from(1, 3000) {
			indices = append(indices, n)
		}
		isStored(t, recordAt(seed, 1+seed%16, indices...))
	}
	for _, index := range []int64{0, 1, 255, 256, 65535, 65536, 131071, 999999, lastIndex} {
		isStored(t, recordAt(3, 2, index))
	}
}

// Promise 11: numbers of any bits are loaded as the same ones.
func TestOddRecordsAreLoaded(t *testing.T) {
	odd := oddComplexes()
	for k := range len(odd) {
		for _, elements := range []int{1, 2, 16} {
			r := impl.Record{Elements: int64(elements)}
			for n := range 3 {
				list := append(slices.Clone(odd), odd...)
				r.Frames = append(r.Frames, impl.Frame{Index: int64(n * 9), Shot: list[k+n : k+n+elements]})
			}
			isStored(t, r)
		}
	}
	for _, bits := range []uint32{0x7f800001, 0x7fbfffff, 0x7fc00000, 0x7fc00001, 0x7fffffff, 0xff800001, 0xffc00000, 0xffffffff} {
		x := bits32(bits)
		isStored(t, impl.Record{Elements: 1, Frames: []impl.Frame{{Index: 4, Shot: []complex64{complex(x, 1)}}, {Index: 5, Shot: []complex64{complex(1, x)}}}})
	}
}

// Promise 11: bytes that are cut at any place are no record, but at the end of a frame.
func TestCutRecords(t *testing.T) {
	for _, elements := range []int{1, 2, 3, 16} {
		for _, count := range []int{0, 1, 4} {
			r := recordAt(elements, elements, stepped(10, 10, count)...)
			s, size := storedTold(r), sizeTold(elements)
			for end := range len(s) + 1 {
				cut := s[:end]
				if end < 5 {
					isNoRecord(t, cut)
					isRecovered(t, cut, impl.Record{}, 0)
					isNoFrame(t, cut, 0)
					continue
				}
				whole := (end - 5) / size
				want := impl.Record{Elements: r.Elements, Frames: r.Frames[:whole]}
				isRecovered(t, cut, want, 5+whole*size)
				if end == 5+whole*size {
					got, ok := impl.LoadRecord(cut)
					isRecord(t, "record cut behind a frame", got, ok, want)
				} else {
					isNoRecord(t, cut)
				}
				for k := range count + 2 {
					f := impl.Frame{}
					if k < whole {
						f = r.Frames[k]
					}
					got, ok := impl.FrameAt(cut, int64(k))
					isFrame(t, fmt.Sprint("frame of cut bytes ", k), got, ok, f)
				}
			}
		}
	}
}

// Bytes behind the last frame that are less than a frame are none.
func TestBytesBehindTheLastFrame(t *testing.T) {
	for _, elements := range []int{1, 2, 16} {
		for _, count := range []int{0, 1, 3, 64} {
			r := recordAt(elements, elements, stepped(10, 10, count)...)
			s, next := storedTold(r), storedTold(recordAt(9, elements, 900000))[5:]
			for length := 1; length < len(next); length++ {
				for _, behind := range []string{next[:length], next[len(next)-length:], string(make([]byte, length))} {
					isNoRecord(t, s+behind)
					isRecovered(t, s+behind, r, len(s))
					isNoFrame(t, s+behind, int64(count))
				}
			}
		}
	}
}

// A byte of the beginning that is another one leaves no record, unless it tells another
// number of elements.
func TestChangedBeginnings(t *testing.T) {
	for _, r := range []impl.Record{{Elements: 1}, {Elements: 16}, recordAt(1, 1, 3, 4, 5), recordAt(2, 16, 0, lastIndex)} {
		s := storedTold(r)
		for at := range 5 {
			for b := range 256 {
				changed := s[:at] + string([]byte{byte(b)}) + s[at+1:]
				if changed == s {
					continue
				}
				if at < 4 || b < 1 || b > 16 {
					isNoRecord(t, changed)
					isRecovered(t, changed, impl.Record{}, 0)
					isNoFrame(t, changed, 0)
					continue
				}
				// Frames of another size have other check numbers.
				isRecovered(t, changed, impl.Record{Elements: int64(b)}, 5)
				got, ok := impl.LoadRecord(changed)
				isEqual(t, "loaded with other elements", ok, len(s) == 5)
				isEqual(t, "loaded with other elements", len(got.Frames), 0)
			}
		}
	}
	for _, s := range []string{"", "A", "ARR", "ARR1", "arr1\x01", "ARR2\x01", " ARR1\x01", "ARR1\x00", "ARR1\x11", "ARR1\xff", "1RRA\x01", "ARR\x01", "ARR11", "\x01ARR1", "ARRARR1\x01"} {
		isNoRecord(t, s)
		isRecovered(t, s, impl.Record{}, 0)
		isNoFrame(t, s, 0)
	}
}

// Frames with a good check number are none if their index is no index, or their numbers
// have bits that no frame is stored with.
func TestGoodChecksOfNoFrames(t *testing.T) {
	r := recordOf(3, 1)
	s := storedTold(r)
	for _, index := range []uint32{0, 1, 2, 3, lastIndex + 1, lastIndex + 2, 1 << 24, 0x7fffffff, 0x80000000, 0xfffffffe, 0xffffffff} {
		behind := s + frameOfWords(index, 0, 0)
		isNoRecord(t, behind)
		isRecovered(t, behind, r, len(s))
		if index > lastIndex {
			isNoFrame(t, behind, 1)
			isNoRecord(t, headTold(1)+frameOfWords(index, 0, 0))
			isRecovered(t, headTold(1)+frameOfWords(index, 0, 0), impl.Record{Elements: 1}, 5)
			continue
		}
		// From its place alone, a frame is one whatever index the frame before it has.
		got, ok := impl.FrameAt(behind, 1)
		isFrame(t, "frame with a lesser index", got, ok, impl.Frame{Index: int64(index), Shot: []complex64{0}})
	}
	for _, bits := range []uint32{0x7f800001, 0x7fbfffff, 0x7fc00001, 0x7fffffff, 0xff800001, 0xffc00000, 0xffffffff} {
		for _, words := range [][]uint32{{4, bits, 0}, {4, 0, bits}, {4, bits, bits}, {4, 0x7fc00000, bits}, {4, bits, 0x7fc00000}} {
			behind := s + frameOfWords(words...)
			isNoRecord(t, behind)
			isRecovered(t, behind, r, len(s))
			isNoFrame(t, behind, 1)
		}
	}
	for _, bits := range []uint32{0, 1, 0x80000000, 0x7f800000, 0xff800000, 0x7fc00000, 0x007fffff, 0xff7fffff} {
		x := bits32(bits)
		behind := s + frameOfWords(4, bits, 0) + frameOfWords(lastIndex, 0, bits)
		want := impl.Record{Elements: 1, Frames: append(slices.Clone(r.Frames), impl.Frame{Index: 4, Shot: []complex64{complex(x, 0)}}, impl.Frame{Index: lastIndex, Shot: []complex64{complex(0, x)}})}
		got, ok := impl.LoadRecord(behind)
		isRecord(t, "record with odd bits", got, ok, want)
		isStored(t, want)
	}
}

// Not-a-numbers with other bits are in no frame, also where the frame with the stored
// ones has the same check number.
func TestOtherBitsWithTheSameCheckNumber(t *testing.T) {
	found := 0
	for bits := uint32(0x7f800001); bits < 0x7fc00000; bits += 7 {
		index := bits % 1000
		stored, other := frameOfWords(index, 0x7fc00000, 0x7fc00000), frameOfWords(index, bits, 0x7fc00000|bits/3%256)
		if stored[12:] != other[12:] {
			continue
		}
		found++
		isNoFrame(t, headTold(1)+other, 0)
		isNoRecord(t, headTold(1)+other)
		isRecovered(t, headTold(1)+other, impl.Record{Elements: 1}, 5)
	}
	isEqual(t, "the same check number", found > 3, true)
}

// A check number of two bytes can be no remainder, but equal one but for CheckSize.
func TestCheckNumbersThatAreNone(t *testing.T) {
	found := 0
	for index := range uint32(3000) {
		f := frameOfWords(index, 0, 0)
		check := binary.LittleEndian.Uint16([]byte(f[12:]))
		if int(check)+65003 > 65535 {
			continue
		}
		found++
		s := headTold(1) + f[:12] + string(binary.LittleEndian.AppendUint16(nil, check+65003))
		isNoRecord(t, s)
		isRecovered(t, s, impl.Record{Elements: 1}, 5)
		isNoFrame(t, s, 0)
	}
	isEqual(t, "small check numbers", found > 5, true)
}

// Too many frames are no record, but all of them can be taken by their places.
func TestTooManyFrames(t *testing.T) {
	for _, elements := range []int{1, 16} {
		r := recordAt(5, elements, stepped(0, 9, 70)...)
		s, size := storedTold(r), sizeTold(elements)
		full := impl.Record{Elements: r.Elements, Frames: r.Frames[:64]}
		isStored(t, full)
		for count := 65; count <= 70; count++ {
			isNoRecord(t, s[:5+count*size])
			isRecovered(t, s[:5+count*size], full, 5+64*size)
		}
		for k, f := range r.Frames {
			got, ok := impl.FrameAt(s, int64(k))
			isFrame(t, fmt.Sprint("frame by its place ", k), got, ok, f)
		}
		isNoFrame(t, s, 70)
	}
}
