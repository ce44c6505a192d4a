package tests

import (
	"fmt"
	"slices"
	"testing"

	"loop.example/g01181/impl"
)

// mergedTold returns the record with the frames of both, index by index, or a zero one
// if they are too many.
func mergedTold(a, b impl.Record) impl.Record {
	taken, indices := map[int64]impl.Frame{}, []int64{}
	for _, f := range append(slices.Clone(b.Frames), a.Frames...) {
		if !slices.Contains(indices, f.Index) {
			indices = append(indices, f.Index)
		}
		taken[f.Index] = f
	}
	slices.Sort(indices)
	merged := impl.Record{Elements: a.Elements}
	for _, index := range indices {
		merged.Frames = append(merged.Frames, taken[index])
	}
	if len(indices) > 64 {
		return impl.Record{}
	}
	return merged
}

// isMerged fails the test unless two records, of the same elements, are merged as told,
// both ways round.
func isMerged(t *testing.T, a, b impl.Record) {
	t.Helper()
	got, ok := impl.MergeRecords(a, b)
	isRecord(t, "merged", got, ok, mergedTold(a, b))
	got, ok = impl.MergeRecords(b, a)
	isRecord(t, "merged the other way round", got, ok, mergedTold(b, a))
}

func TestMergeRecords(t *testing.T) {
	a, b := recordOf(2, 1, 5, -2), recordOf(2, 7, 3, 8)
	got, ok := impl.MergeRecords(a, b)
	isRecord(t, "merged", got, ok, recordOf(2, 1, 3, 8, 5, -2))
	got, ok = impl.MergeRecords(b, a)
	isRecord(t, "merged the other way round", got, ok, recordOf(2, 7, 3, 8, 5, -2))
	none := impl.Record{Elements: 1}
	got, ok = impl.MergeRecords(none, none)
	isRecord(t, "no frames", got, ok, none)
	got, ok = impl.MergeRecords(a, none)
	isRecord(t, "no frames of b", got, ok, a)
	got, ok = impl.MergeRecords(none, a)
	isRecord(t, "no frames of a", got, ok, a)
	got, ok = impl.MergeRecords(recordOf(0, 1), recordOf(lastIndex, 2))
	isRecord(t, "both ends", got, ok, recordOf(0, 1, lastIndex, 2))
	got, ok = impl.MergeRecords(recordOf(lastIndex, 2), recordOf(0, 1))
	isRecord(t, "both ends", got, ok, recordOf(0, 1, lastIndex, 2))
}

// Records whose indices all fall together keep the frames of a, and those of which none
// do keep all, up to MaxRecord.
func TestMergedCounts(t *testing.T) {
	for _, elements := range []int{1, 16} {
		for _, count := range []int{1, 31, 32, 63, 64} {
			a, b := recordAt(1, elements, stepped(2, 2, count)...), recordAt(2, elements, stepped(2, 2, count)...)
			got, ok := impl.MergeRecords(a, b)
			isRecord(t, "all fall together", got, ok, a)
			for _, rest := range []int{0, 1, 2, 31, 32, 33, 34, 63, 64} {
				// In between, all behind, and half of them together.
				for _, other := range [][]int64{stepped(3, 2, rest), stepped(900, 1, rest), stepped(2+int64(count), 1, rest)} {
					b := recordAt(2, elements, other...)
					isMerged(t, a, b)
				}
				apart := recordAt(2, elements, stepped(3, 2, rest)...)
				_, ok := impl.MergeRecords(a, apart)
				isEqual(t, fmt.Sprint("merged ", count, rest), ok, count+rest <= 64)
			}
		}
	}
	full := recordAt(1, 1, stepped(0, 2, 64)...)
	isMerged(t, full, recordAt(2, 1, stepped(0, 2, 63)...))
	isMerged(t, full, recordAt(2, 1, 126))
	_, ok := impl.MergeRecords(full, recordAt(2, 1, 126))
	isEqual(t, "one that falls together", ok, true)
	_, ok = impl.MergeRecords(full, recordAt(2, 1, 127))
	isEqual(t, "one that does not", ok, false)
}

func TestMergedDrawnRecords(t *testing.T) {
	merged := 0
	for seed := range 2000 {
		d := drawerFrom(seed)
		var both [2]impl.Record
		for k := range both {
			var indices []int64
			for n := range d.from(1, 200) {
				if d.from(0, 3) == 0 && len(indices) < 64 {
					indices = append(indices, n)
				}
			}
			both[k] = recordAt(seed+k, 1+seed%4, indices...)
		}
		if mergedTold(both[0], both[1]).Elements != 0 {
			merged++
		}
		isMerged(t, both[0], both[1])
	}
	isEqual(t, "merged and refused", merged > 500 && merged < 1950, true)
}

func TestMergesRefuse(t *testing.T) {
	for a := 1; a <= 16; a++ {
		for b := 1; b <= 16; b++ {
			for _, indices := range [][]int64{nil, {3}} {
				one, other := recordAt(1, a, indices...), recordAt(1, b, 3)
				got, ok := impl.MergeRecords(one, other)
				isEqual(t, fmt.Sprint("elements ", a, b), ok, a == b)
				isEqual(t, "elements", len(got.Frames) > 0, a == b)
				got, ok = impl.MergeRecords(one, recordAt(1, b))
				isEqual(t, fmt.Sprint("elements without frames ", a, b), ok, a == b)
				isEqual(t, "elements without frames", got.Elements != 0, a == b)
			}
		}
	}
	for _, wrong := range wrongRecords() {
		for _, other := range []impl.Record{wrong, recordAt(1, 1), {Elements: wrong.Elements}, recordAt(1, 1, 7), recordAt(1, 2, 7)} {
			got, ok := impl.MergeRecords(wrong, other)
			isRecord(t, "wrong record "+textOfRecord(wrong), got, ok, impl.Record{})
			got, ok = impl.MergeRecords(other, wrong)
			isRecord(t, "wrong record "+textOfRecord(wrong), got, ok, impl.Record{})
		}
	}
}
