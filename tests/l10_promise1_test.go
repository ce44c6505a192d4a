package tests

import (
	"fmt"
	"slices"
	"testing"

	"loop.example/g01181/impl"
)

// recordsReport calls the functions of chapter 10 with records, and tells all results.
func recordsReport(a, b impl.Record, f impl.Frame, from, count int64) string {
	added, one := impl.AddFrame(a, f)
	sliced, two := impl.SliceFrames(a, from, count)
	merged, three := impl.MergeRecords(a, b)
	stored, four := impl.StoreRecord(a)
	shots, five := impl.ShotsOfRecord(a)
	missing, six := impl.MissingIndices(a)
	size, seven := impl.FrameSize(from)
	report := fmt.Sprint(one, two, three, four, five, six, seven, impl.ValidRecord(a), impl.SameRecord(a, b), missing, size)
	for _, r := range []impl.Record{added, sliced, merged} {
		report += textOfRecord(r) + ";"
	}
	return report + bitsOfRows(shots) + stored
}

// bytesReport calls the other functions of chapter 10, and tells all results.
func bytesReport(s, other string, k int64) string {
	loaded, one := impl.LoadRecord(s)
	recovered, n, two := impl.RecoverRecord(s)
	f, three := impl.FrameAt(s, k)
	frame, place, four := impl.FirstDifference(s, other)
	return fmt.Sprint(one, two, three, four, n, frame, place, textOfFrames([]impl.Frame{f})) + textOfRecord(loaded) + textOfRecord(recovered)
}

// cutRecord returns a record of 12 frames of 12 elements, cut to fewer of both.
func cutRecord(seed, elements, count int) impl.Record {
	r := recordAt(seed, 12, stepped(int64(seed), 2, 12)...)
	for k := range r.Frames {
		r.Frames[k].Shot = r.Frames[k].Shot[:elements]
	}
	return impl.Record{Elements: int64(elements), Frames: r.Frames[:count]}
}

// wholeRecord tells a record, and all that lies behind its ends.
func wholeRecord(r impl.Record) string {
	s := fmt.Sprint(r.Elements)
	for _, f := range r.Frames[:cap(r.Frames)] {
		s += textOfFrames([]impl.Frame{{Index: f.Index, Shot: f.Shot[:cap(f.Shot)]}})
	}
	return s
}

// Promise 1: records and frames stay as they are, with what lies behind their ends.
func TestRecordsAreNotModified(t *testing.T) {
	for elements := range 12 {
		for count := range 12 {
			for seed := range 3 {
				a, b := cutRecord(seed, elements, count), cutRecord(5, elements, 11-count)
				f := impl.Frame{Index: 50, Shot: drawn(8, 20)[:elements]}
				wasA, wasB, wasF := wholeRecord(a), wholeRecord(b), bitsOfWeights(f.Shot[:20])
				from, few := int64(count/3), int64(count/2)
				before := recordsReport(a, b, f, from, few)
				isEqual(t, "records again", recordsReport(a, b, f, from, few), before)
				isEqual(t, "copies", recordsReport(copyOfRecord(a), copyOfRecord(b), impl.Frame{Index: 50, Shot: slices.Clone(f.Shot)}, from, few), before)
				isEqual(t, "first record", wholeRecord(a), wasA)
				isEqual(t, "second record", wholeRecord(b), wasB)
				isEqual(t, "frame", bitsOfWeights(f.Shot[:20]), wasF)
			}
		}
	}
}

// Promise 1: frames that share memory are frames like others.
func TestFramesThatShareMemory(t *testing.T) {
	list := drawn(9, 30)
	was := bitsOfWeights(list)
	for size := 1; size <= 16; size++ {
		shared := impl.Record{Elements: int64(size)}
		for k := range 9 {
			shared.Frames = append(shared.Frames, impl.Frame{Index: int64(3 * k), Shot: list[k : k+size]})
		}
		f, apart := impl.Frame{Index: 77, Shot: list[:size]}, copyOfRecord(shared)
		isEqual(t, "records of one list", recordsReport(shared, shared, f, 2, 3), recordsReport(apart, copyOfRecord(shared), f, 2, 3))
		isStored(t, shared)
	}
	isEqual(t, "the list", bitsOfWeights(list), was)
}

// Promise 1: nil and empty slices are the same.
func TestNilAndEmptyRecords(t *testing.T) {
	for elements := range int64(18) {
		f, g := impl.Frame{Index: 1}, impl.Frame{Index: 1, Shot: []complex64{}}
		one, other := impl.Record{Elements: elements}, impl.Record{Elements: elements, Frames: []impl.Frame{}}
		isEqual(t, "no frames", recordsReport(one, one, f, 0, 0), recordsReport(other, other, g, 0, 0))
		isEqual(t, "no numbers", recordsReport(impl.Record{Elements: elements, Frames: []impl.Frame{f}}, one, f, 0, 1),
			recordsReport(impl.Record{Elements: elements, Frames: []impl.Frame{g}}, other, g, 0, 1))
	}
}

// Promise 1: all functions of chapter 10 return for integers far from all limits.
func TestFarIntegersReturnRecords(t *testing.T) {
	numbers := append(farIntegers(), -65, -1, 0, 1, 2, 16, 17, 64, 65, lastIndex, lastIndex+1, 4294967295, 4294967296)
	s := storedTold(recordAt(1, 2, 3, 4))
	for _, a := range numbers {
		for _, b := range numbers {
			for _, r := range []impl.Record{recordAt(1, 2, a, b), recordAt(2, 1, 0, a), recordAt(3, 1, a), {Elements: a}, {Elements: a, Frames: recordAt(4, 2, 0, b).Frames}} {
				for _, f := range []impl.Frame{{}, {Index: a, Shot: ones(1)}, {Index: b, Shot: ones(2)}} {
					isEqual(t, "records again", recordsReport(r, recordAt(1, 2, 5), f, a, b), recordsReport(r, recordAt(1, 2, 5), f, a, b))
				}
			}
		}
		isEqual(t, "bytes again", bytesReport(s, s+"x", a), bytesReport(s, s+"x", a))
		isEqual(t, "bytes again", bytesReport(s[:9], s, a), bytesReport(s[:9], s, a))
	}
}

// Promise 1: all functions of chapter 10 return for wrong records and any bytes.
func TestWrongRecordsReturn(t *testing.T) {
	for _, wrong := range wrongRecords() {
		f := impl.Frame{Index: lastIndex, Shot: ones(2)}
		isEqual(t, "records again", recordsReport(wrong, recordAt(1, 1, 2), f, 0, 1), recordsReport(wrong, recordAt(1, 1, 2), f, 0, 1))
		isEqual(t, "records again", recordsReport(recordAt(1, 1, 2), wrong, f, 0, 1), recordsReport(recordAt(1, 1, 2), wrong, f, 0, 1))
	}
	for seed := range 3000 {
		d := drawerFrom(seed)
		var bytes []byte
		for range d.from(0, 60) {
			bytes = append(bytes, byte(d.from(0, 255)))
		}
		for _, s := range []string{string(bytes), headTold(seed%18) + string(bytes), "ARR1" + string(bytes)} {
			before := bytesReport(s, s+"x", int64(seed%4))
			isEqual(t, "bytes again", bytesReport(s, s+"x", int64(seed%4)), before)
		}
	}
}

// isNewRecord fails the test if a record that a call returns changes with what is
// written into one before, also behind its ends, or if two of its frames share memory.
func isNewRecord(t *testing.T, what string, call func() (impl.Record, bool)) {
	t.Helper()
	first, _ := call()
	was := copyOfRecord(first)
	for k, f := range first.Frames {
		shot := f.Shot[:cap(f.Shot)]
		for n := range shot {
			shot[n] = 77
		}
		for n := k + 1; n < len(was.Frames); n++ {
			isWeights(t, what+", another frame", first.Frames[n].Shot, true, was.Frames[n].Shot)
		}
	}
	frames := first.Frames[:cap(first.Frames)]
	for k := range frames {
		frames[k] = impl.Frame{Index: 99, Shot: ones(1)}
	}
	again, ok := call()
	isRecord(t, what+" again", again, ok, was)
}

// Promise 1: each result of chapter 10 is new memory.
func TestResultsOfChapter10ShareNoMemory(t *testing.T) {
	a, b := cutRecord(0, 3, 4), cutRecord(3, 3, 5)
	f := impl.Frame{Index: 900, Shot: drawn(8, 3)}
	wasA, wasB, wasF, s := wholeRecord(a), wholeRecord(b), bitsOfWeights(f.Shot), storedTold(a)
	isNewRecord(t, "added", func() (impl.Record, bool) { return impl.AddFrame(a, f) })
	isNewRecord(t, "added to none", func() (impl.Record, bool) { return impl.AddFrame(impl.Record{Elements: 3}, f) })
	isNewRecord(t, "sliced", func() (impl.Record, bool) { return impl.SliceFrames(a, 1, 2) })
	isNewRecord(t, "all of them", func() (impl.Record, bool) { return impl.SliceFrames(a, 0, 4) })
	isNewRecord(t, "none of them", func() (impl.Record, bool) { return impl.SliceFrames(a, 2, 0) })
	isNewRecord(t, "merged", func() (impl.Record, bool) { return impl.MergeRecords(a, b) })
	isNewRecord(t, "merged with none", func() (impl.Record, bool) { return impl.MergeRecords(a, impl.Record{Elements: 3}) })
	isNewRecord(t, "merged behind none", func() (impl.Record, bool) { return impl.MergeRecords(impl.Record{Elements: 3}, a) })
	isNewRecord(t, "merged with itself", func() (impl.Record, bool) { return impl.MergeRecords(a, a) })
	isNewRecord(t, "loaded", func() (impl.Record, bool) { return impl.LoadRecord(s) })
	isNewRecord(t, "recovered", func() (impl.Record, bool) {
		r, _, ok := impl.RecoverRecord(s + "x")
		return r, ok
	})
	isNewMemory(t, "frame", func() ([]complex64, bool) {
		f, ok := impl.FrameAt(s, 2)
		return f.Shot, ok
	}, 77)
	isNewMatrix(t, "shots", func() (impl.Matrix, bool) {
		shots, ok := impl.ShotsOfRecord(a)
		return impl.Matrix{Rows: shots}, ok
	})
	isNewMemory(t, "missing", func() ([]int64, bool) { return impl.MissingIndices(a) }, 77)
	isEqual(t, "first record", wholeRecord(a), wasA)
	isEqual(t, "second record", wholeRecord(b), wasB)
	isEqual(t, "frame", bitsOfWeights(f.Shot), wasF)
}
