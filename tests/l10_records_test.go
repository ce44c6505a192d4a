package tests

import (
	"fmt"
	"slices"
	"testing"

	"loop.example/g01181/impl"
)

// recordAt returns a record of frames with some indices, and numbers that a seed tells.
func recordAt(seed, elements int, indices ...int64) impl.Record {
	r := impl.Record{Elements: int64(elements)}
	for k, index := range indices {
		r.Frames = append(r.Frames, impl.Frame{Index: index, Shot: drawn(uint32(1000*seed+k), elements)})
	}
	return r
}

// recordOf returns a record of one element, with pairs of an index and a number.
func recordOf(numbers ...int64) impl.Record {
	r := impl.Record{Elements: 1}
	for k := 0; k < len(numbers); k += 2 {
		r.Frames = append(r.Frames, impl.Frame{Index: numbers[k], Shot: []complex64{complex(float32(numbers[k+1]), 0)}})
	}
	return r
}

// stepped returns count indices from first on, step apart.
func stepped(first, step int64, count int) []int64 {
	var indices []int64
	for k := range int64(count) {
		indices = append(indices, first+k*step)
	}
	return indices
}

// copyOfRecord returns a copy of a record without anything behind its ends.
func copyOfRecord(r impl.Record) impl.Record {
	copied := impl.Record{Elements: r.Elements}
	for _, f := range r.Frames {
		copied.Frames = append(copied.Frames, impl.Frame{Index: f.Index, Shot: slices.Clone(f.Shot)})
	}
	return copied
}

// textOfFrames tells frames, with one word for all not-a-numbers.
func textOfFrames(frames []impl.Frame) string {
	s := ""
	for _, f := range frames {
		s += fmt.Sprint(" ", f.Index, ":") + bitsOfWeights(f.Shot)
	}
	return s
}

// textOfRecord tells a record.
func textOfRecord(r impl.Record) string {
	return fmt.Sprint(r.Elements, textOfFrames(r.Frames))
}

// isRecord fails the test unless a call has succeeded with the record want, or has
// failed with a zero one where want has no elements.
func isRecord(t *testing.T, what string, got impl.Record, ok bool, want impl.Record) {
	t.Helper()
	isEqual(t, what, ok, want.Elements != 0)
	isEqual(t, what, textOfRecord(got), textOfRecord(want))
}

// isFrame fails the test unless a call has succeeded with the frame want, or has failed
// with a zero one where want has no numbers.
func isFrame(t *testing.T, what string, got impl.Frame, ok bool, want impl.Frame) {
	t.Helper()
	isEqual(t, what, ok, len(want.Shot) > 0)
	isEqual(t, what, textOfFrames([]impl.Frame{got}), textOfFrames([]impl.Frame{want}))
}

// wrongIndexLists returns lists that are no indices of a record.
func wrongIndexLists() [][]int64 {
	lists := [][]int64{{5, 5}, {5, 4}, {1, 0}, {0, 0}, {lastIndex, lastIndex}, {lastIndex, 0}, {0, 2, 1}, {0, 2, 2}, {3, 1, 2}, {0, 1, 0}, {1, 2, 1}, stepped(0, 0, 64), stepped(63, -1, 64)}
	for _, n := range wrongIndices() {
		lists = append(lists, []int64{n}, []int64{n, 5}, []int64{5, n}, []int64{5, n, 9})
	}
	for k := 1; k < 64; k++ {
		twice, less := stepped(7, 2, 64), stepped(7, 2, 64)
		twice[k] = twice[k-1]
		less[k] = less[k-1] - 1
		lists = append(lists, twice, less)
	}
	for _, count := range []int{65, 66, 128, 1000} {
		lists = append(lists, stepped(0, 1, count))
	}
	return lists
}

// wrongElements returns numbers of elements that no record has.
func wrongElements() []int64 {
	return append(farIntegers(), -16, -2, -1, 0, 17, 18, 64, 255, 256, 257, 1<<32+1)
}

// wrongRecords returns values that are no records.
func wrongRecords() []impl.Record {
	list := []impl.Record{{}, {Frames: []impl.Frame{}}, {Frames: []impl.Frame{{}}}, {Elements: 1, Frames: []impl.Frame{{}}}}
	for _, indices := range wrongIndexLists() {
		list = append(list, recordAt(1, 1, indices...))
	}
	for _, elements := range wrongElements() {
		list = append(list, impl.Record{Elements: elements}, impl.Record{Elements: elements, Frames: recordAt(1, 1, 5).Frames})
	}
	// As many numbers as elements, which are too many or none.
	list = append(list, recordAt(1, 0, 3), recordAt(1, 0, 3, 4), recordAt(1, 17, 3), recordAt(1, 17, 3, 4))
	for k := range 64 {
		for _, count := range []int{0, 1, 3, 16} {
			other := recordAt(1, 2, stepped(9, 3, 64)...)
			other.Frames[k].Shot = ones(count)
			list = append(list, other)
		}
	}
	return list
}

func TestValidRecord(t *testing.T) {
	for elements := 1; elements <= 16; elements++ {
		for _, count := range []int{0, 1, 2, 63, 64, 65, 66, 200} {
			for _, first := range []int64{0, 1, lastIndex - 1 - 3*int64(count), lastIndex - 3*int64(max(count-1, 0)), lastIndex} {
				indices := stepped(first, 3, count)
				isEqual(t, fmt.Sprint("record ", elements, count, first), impl.ValidRecord(recordAt(1, elements, indices...)),
					count <= 64 && (count == 0 || indices[count-1] <= lastIndex))
			}
		}
	}
	for _, indices := range [][]int64{{0}, {lastIndex}, {0, 1}, {0, lastIndex}, {lastIndex - 1, lastIndex}, {0, 5, lastIndex}, stepped(0, 1, 64), stepped(lastIndex-63, 1, 64)} {
		isEqual(t, fmt.Sprint("record at ", indices), impl.ValidRecord(recordAt(1, 2, indices...)), true)
	}
	for _, x := range oddComplexes() {
		isEqual(t, "record of any number", impl.ValidRecord(impl.Record{Elements: 2, Frames: []impl.Frame{{Shot: []complex64{x, 1}}}}), true)
	}
	for _, wrong := range wrongRecords() {
		isEqual(t, "wrong record "+textOfRecord(wrong), impl.ValidRecord(wrong), false)
	}
}

// isSame fails the test unless two records are the same, or not, both ways round.
func isSame(t *testing.T, what string, a, b impl.Record, want bool) {
	t.Helper()
	isEqual(t, what, impl.SameRecord(a, b), want)
	isEqual(t, what+" the other way round", impl.SameRecord(b, a), want)
}

func TestSameRecord(t *testing.T) {
	for elements := 1; elements <= 16; elements++ {
		for _, count := range []int{0, 1, 2, 5, 64} {
			r := recordAt(elements, elements, stepped(4, 2, count)...)
			isSame(t, "record and itself", r, r, true)
			isSame(t, "record and its copy", r, copyOfRecord(r), true)
			other := copyOfRecord(r)
			other.Elements = 17 - other.Elements
			isSame(t, "other elements", r, other, false)
			for k := range count {
				other = copyOfRecord(r)
				other.Frames[k].Index++
				isSame(t, "another index", r, other, false)
				other = copyOfRecord(r)
				other.Frames = slices.Delete(other.Frames, k, k+1)
				isSame(t, "a frame less", r, other, false)
				other = copyOfRecord(r)
				at := k % elements
				other.Frames[k].Shot[at] += complex(1, 0)
				isSame(t, "another real part", r, other, false)
				other.Frames[k].Shot[at] = r.Frames[k].Shot[at] + complex(0, 1)
				isSame(t, "another imaginary part", r, other, false)
				other.Frames[k].Shot[elements-1-at], other.Frames[k].Shot[at] = r.Frames[k].Shot[elements-1-at], r.Frames[k].Shot[at]
				isSame(t, "the numbers again", r, other, true)
			}
		}
	}
	isSame(t, "no frames of other elements", recordAt(1, 1), recordAt(1, 2), false)
	isSame(t, "nil and no frames", impl.Record{Elements: 1}, impl.Record{Elements: 1, Frames: []impl.Frame{}}, true)
	for _, wrong := range wrongRecords() {
		isSame(t, "wrong record "+textOfRecord(wrong), wrong, wrong, false)
		isSame(t, "wrong record "+textOfRecord(wrong), wrong, recordAt(1, 1, 5), false)
	}
}

// Zeros have signs, and all not-a-numbers are one value.
func TestSameRecordOfOddNumbers(t *testing.T) {
	odd := oddComplexes()
	of := func(x complex64) impl.Record {
		return impl.Record{Elements: 2, Frames: []impl.Frame{{Index: 3, Shot: []complex64{1, x}}}}
	}
	for _, x := range odd {
		for _, y := range odd {
			isEqual(t, fmt.Sprint("records of ", x, y), impl.SameRecord(of(x), of(y)), sameList([]complex64{x}, []complex64{y}))
		}
	}
}

func TestAddFrame(t *testing.T) {
	for elements := 1; elements <= 16; elements++ {
		r := recordAt(7, elements)
		for k, index := range stepped(0, 15873, 64) {
			f := impl.Frame{Index: index, Shot: drawn(uint32(k), elements)}
			got, ok := impl.AddFrame(r, f)
			r = impl.Record{Elements: r.Elements, Frames: append(slices.Clone(r.Frames), f)}
			isRecord(t, fmt.Sprint("record with frame ", k), got, ok, r)
		}
		isEqual(t, "frames", len(r.Frames), 64)
		got, ok := impl.AddFrame(r, impl.Frame{Index: lastIndex, Shot: ones(elements)})
		isRecord(t, "one frame too many", got, ok, impl.Record{})
	}
	r := recordAt(3, 2, 4, 9)
	for _, index := range append(wrongIndices(), 0, 3, 4, 5, 8, 9) {
		got, ok := impl.AddFrame(r, impl.Frame{Index: index, Shot: ones(2)})
		isRecord(t, fmt.Sprint("no next index ", index), got, ok, impl.Record{})
	}
	for _, index := range []int64{10, 11, lastIndex - 1, lastIndex} {
		got, ok := impl.AddFrame(r, impl.Frame{Index: index, Shot: ones(2)})
		isRecord(t, fmt.Sprint("next index ", index), got, ok, impl.Record{Elements: 2, Frames: append(slices.Clone(r.Frames), impl.Frame{Index: index, Shot: ones(2)})})
	}
	for _, count := range []int{0, 1, 3, 16, 17, 65} {
		got, ok := impl.AddFrame(r, impl.Frame{Index: 10, Shot: ones(count)})
		isRecord(t, fmt.Sprint("numbers ", count), got, ok, impl.Record{})
		got, ok = impl.AddFrame(impl.Record{Elements: 2}, impl.Frame{Index: 10, Shot: ones(count)})
		isRecord(t, fmt.Sprint("first numbers ", count), got, ok, impl.Record{})
	}
	got, ok := impl.AddFrame(recordOf(lastIndex, 1), recordOf(lastIndex, 2).Frames[0])
	isRecord(t, "behind the last index", got, ok, impl.Record{})
	for _, wrong := range wrongRecords() {
		got, ok := impl.AddFrame(wrong, impl.Frame{Index: lastIndex, Shot: ones(int(max(0, min(wrong.Elements, 99))))})
		isRecord(t, "wrong record "+textOfRecord(wrong), got, ok, impl.Record{})
	}
}

func TestSliceFrames(t *testing.T) {
	for _, all := range []int64{0, 1, 2, 5, 64} {
		r := recordAt(8, 3, stepped(1, 4, int(all))...)
		for from := int64(-2); from <= all+2; from++ {
			for count := int64(-2); count <= all+2; count++ {
				want := impl.Record{}
				if from >= 0 && count >= 0 && from+count <= all {
					want = impl.Record{Elements: 3, Frames: r.Frames[from : from+count]}
				}
				got, ok := impl.SliceFrames(r, from, count)
				isRecord(t, fmt.Sprint("frames of ", all, from, count), got, ok, want)
			}
		}
		for _, n := range farIntegers() {
			for _, m := range append(farIntegers(), 0, 1) {
				got, ok := impl.SliceFrames(r, n, m)
				isRecord(t, fmt.Sprint("frames from ", n, m), got, ok, impl.Record{})
				got, ok = impl.SliceFrames(r, m, n)
				isRecord(t, fmt.Sprint("frames from ", m, n), got, ok, impl.Record{})
			}
		}
	}
	for _, wrong := range wrongRecords() {
		// Also no frames of a wrong record, and those that would be a record alone.
		for _, count := range []int64{0, 1} {
			got, ok := impl.SliceFrames(wrong, 0, count)
			isRecord(t, "wrong record "+textOfRecord(wrong), got, ok, impl.Record{})
		}
	}
}

func TestShotsOfRecord(t *testing.T) {
	for elements := 1; elements <= 16; elements++ {
		for _, count := range []int{0, 1, 2, 63, 64} {
			r, want := recordAt(elements, elements, stepped(5, 7, count)...), [][]complex64{}
			for _, f := range r.Frames {
				want = append(want, f.Shot)
			}
			got, ok := impl.ShotsOfRecord(r)
			isShots(t, fmt.Sprint("shots ", elements, count), got, ok, want)
		}
	}
	odd := oddComplexes()
	got, ok := impl.ShotsOfRecord(impl.Record{Elements: 16, Frames: []impl.Frame{{Index: 1, Shot: odd[100:116]}, {Index: 2, Shot: odd[116:132]}}})
	isShots(t, "shots of odd numbers", got, ok, [][]complex64{odd[100:116], odd[116:132]})
	for _, wrong := range wrongRecords() {
		got, ok := impl.ShotsOfRecord(wrong)
		isShots(t, "wrong record "+textOfRecord(wrong), got, ok, nil)
	}
}

// missingTold returns the indices between the first and the last one that are in no
// list, or nil if there are too many.
func missingTold(indices []int64) []int64 {
	missing := []int64{}
	if len(indices) == 0 {
		return missing
	}
	for n := indices[0]; n <= indices[len(indices)-1]; n++ {
		if !slices.Contains(indices, n) {
			missing = append(missing, n)
		}
		if len(missing) > 1000 {
			return nil
		}
	}
	return missing
}

func TestMissingIndices(t *testing.T) {
	cases := []struct {
		indices []int64
		want    int
	}{
		{nil, 0}, {[]int64{0}, 0}, {[]int64{lastIndex}, 0}, {[]int64{7, 8, 9}, 0}, {stepped(5, 1, 64), 0},
		{[]int64{2, 5}, 2}, {[]int64{0, 2}, 1}, {[]int64{lastIndex - 2, lastIndex}, 1}, {[]int64{1, 2, 5, 6, 10}, 5},
		{[]int64{0, 1001}, 1000}, {[]int64{0, 1002}, -1}, {[]int64{998999, lastIndex}, 1000}, {[]int64{998998, lastIndex}, -1},
		{[]int64{9, 510, 1011}, 1000}, {[]int64{9, 510, 1012}, -1}, {[]int64{0, 1, 2, 1003}, 1000}, {[]int64{0, 1001, 1002, 1003}, 1000},
		{[]int64{0, 1001, 1002, 1004}, -1}, {[]int64{0, 2, 1003}, -1}, {[]int64{0, 2, 1002}, 1000}, {[]int64{0, lastIndex}, -1},
		{[]int64{0, 5000, 5001}, -1}, {stepped(0, 16, 64), 945}, {stepped(0, 17, 64), -1},
		{append(stepped(0, 16, 63), 1063), 1000}, {append(stepped(0, 16, 63), 1064), -1},
	}
	for _, c := range cases {
		want := missingTold(c.indices)
		isEqual(t, fmt.Sprint("number of missing ones of ", c.indices), len(want) == c.want || want == nil && c.want < 0, true)
		got, ok := impl.MissingIndices(recordAt(1, 2, c.indices...))
		isResult(t, fmt.Sprint("missing of ", c.indices), got, ok, want)
	}
	for seed := range 500 {
		d := drawerFrom(seed)
		indices := []int64{d.from(0, 500000)}
		for range seed % 64 {
			indices = append(indices, indices[len(indices)-1]+d.from(1, []int64{1, 3, 33, 200}[seed%4]))
		}
		got, ok := impl.MissingIndices(recordAt(seed, 1, indices...))
		isResult(t, fmt.Sprint("missing of ", indices), got, ok, missingTold(indices))
	}
	for _, wrong := range wrongRecords() {
		got, ok := impl.MissingIndices(wrong)
		isResult(t, "wrong record "+textOfRecord(wrong), got, ok, nil)
	}
}
