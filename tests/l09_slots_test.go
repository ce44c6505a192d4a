package tests

import (
	"fmt"
	"slices"
	"testing"

	"loop.example/g01181/impl"
)

// numberOf returns the number of the job of a slot.
func numberOf(slots []impl.Slot, k int) int64 {
	number := int64(0)
	for _, s := range slots[:k] {
		if s.Beam == slots[k].Beam {
			number++
		}
	}
	return number
}

// isPlanTold reports whether slots are a plan, for beams that are beams.
func isPlanTold(beams []impl.Beam, slots []impl.Slot) bool {
	for k, s := range slots {
		if s.Beam < 0 || s.Beam >= int64(len(beams)) || s.At < 0 || s.At > 100000 {
			return false
		}
		b := beams[s.Beam]
		if s.At < numberOf(slots, k)*b.Every {
			return false
		}
		if k == 0 {
			continue
		}
		before := slots[k-1]
		other := beams[before.Beam]
		if s.At < before.At+other.Dwell+turnTold(other.Direction, b.Direction) {
			return false
		}
	}
	return len(slots) <= 200
}

// latenessTold returns how many ticks behind its due tick each job ends.
func latenessTold(beams []impl.Beam, slots []impl.Slot) []int64 {
	late := []int64{}
	for k, s := range slots {
		b := beams[s.Beam]
		ticks := int64(0)
		for due := (numberOf(slots, k) + 1) * b.Every; due+ticks < s.At+b.Dwell; ticks++ {
		}
		late = append(late, ticks)
	}
	return late
}

// missedTold returns how many jobs are missed, one job after another.
func missedTold(beams []impl.Beam, slots []impl.Slot, until int64) []int64 {
	missed := []int64{}
	for k, b := range beams {
		var ends []int64
		for _, s := range slots {
			if s.Beam == int64(k) {
				ends = append(ends, s.At+b.Dwell)
			}
		}
		count := int64(0)
		for number := int64(0); (number+1)*b.Every <= until; number++ {
			if number >= int64(len(ends)) || ends[number] > until {
				count++
			}
		}
		missed = append(missed, count)
	}
	return missed
}

// busyTold returns the ticks of dwells, and those of turns.
func busyTold(beams []impl.Beam, slots []impl.Slot) [2]int64 {
	var busy [2]int64
	for k, s := range slots {
		busy[0] += beams[s.Beam].Dwell
		if k+1 < len(slots) {
			busy[1] += turnTold(beams[s.Beam].Direction, beams[slots[k+1].Beam].Direction)
		}
	}
	return busy
}

// areSlots fails the test unless slots are a plan, or none, for each function with
// slots, and what these tell is as told.
func areSlots(t *testing.T, beams []impl.Beam, slots []impl.Slot, until int64, want bool) {
	t.Helper()
	what := fmt.Sprint(beams, slots, until)
	var late, missed []int64
	var busy [2]int64
	if want {
		late, missed, busy = latenessTold(beams, slots), missedTold(beams, slots, until), busyTold(beams, slots)
	}
	isEqual(t, "plan "+what, impl.IsPlan(beams, slots), want)
	gotLate, ok := impl.LatenessOf(beams, slots)
	isResult(t, "lateness of "+what, gotLate, ok, late)
	gotMissed, ok := impl.MissedOf(beams, slots, until)
	isResult(t, "missed of "+what, gotMissed, ok, missed)
	dwells, turns, ok := impl.BusyTicks(beams, slots)
	isEqual(t, "busy ticks of "+what, ok, want)
	isEqual(t, "busy ticks of "+what, [2]int64{dwells, turns}, busy)
}

func TestIsPlan(t *testing.T) {
	// A turn from one to the other takes 2 ticks.
	turned := []impl.Beam{beamAt(0, 1, 4), beamAt(17, 3, 6)}
	cases := []struct {
		what  string
		beams []impl.Beam
		slots []int64
		want  bool
	}{
		{"no slots", turned, nil, true},
		{"a slot", turned, []int64{0, 0}, true},
		{"a slot of the last beam", turned, []int64{1, 0}, true},
		{"a slot that begins late", turned, []int64{1, 100000}, true},
		{"a slot that begins too late", turned, []int64{1, 100001}, false},
		{"a slot that begins too early", turned, []int64{1, -1}, false},
		{"a beam that is too great", turned, []int64{2, 0}, false},
		{"a beam that is too small", turned, []int64{-1, 0}, false},
		{"a slot just at the end behind the turn", turned, []int64{0, 0, 1, 3}, true},
		{"a slot one tick earlier", turned, []int64{0, 0, 1, 2}, false},
		{"a slot one tick later", turned, []int64{0, 0, 1, 4}, true},
		{"a slot just behind the turn back", turned, []int64{1, 0, 0, 5}, true},
		{"a slot one tick before the turn back", turned, []int64{1, 0, 0, 4}, false},
		{"a slot just at the end", loads(3, 9, 2, 9), []int64{0, 0, 1, 3}, true},
		{"a slot just before the end", loads(3, 9, 2, 9), []int64{0, 0, 1, 2}, false},
		{"slots that begin together", loads(3, 9, 2, 9), []int64{0, 5, 1, 5}, false},
		{"slots in the wrong order", loads(3, 9, 2, 9), []int64{0, 50, 1, 5}, false},
		{"a job that begins just when it comes", turned, []int64{0, 0, 0, 4}, true},
		{"a job one tick earlier", turned, []int64{0, 0, 0, 3}, false},
		{"a job that begins just when it comes, among others", turned, []int64{1, 1, 1, 6, 0, 11, 1, 14}, true},
		{"a job one tick earlier, among others", turned, []int64{1, 0, 1, 5, 0, 10}, false},
		{"the third job of a beam", loads(1, 9), []int64{0, 3, 0, 9, 0, 18}, true},
		{"the third job of a beam one tick earlier", loads(1, 9), []int64{0, 3, 0, 9, 0, 17}, false},
		{"late jobs", loads(1, 4), []int64{0, 70, 0, 71, 0, 72}, true},
		{"the last ticks", loads(1, 4), []int64{0, 99999, 0, 100000}, true},
		{"a wrong slot behind others", loads(1, 4), []int64{0, 0, 0, 4, 1, 8}, false},
		{"a wrong slot before others", loads(1, 4), []int64{1, 0, 0, 4, 0, 8}, false},
	}
	for _, c := range cases {
		slots := slotsOf(c.slots...)
		isEqual(t, c.what, impl.IsPlan(c.beams, slots), c.want)
		areSlots(t, c.beams, slots, 10, c.want)
	}
}

// slotLists returns all lists of slots up to a length, with the given beams and ticks.
func slotLists(longest int, beams, ticks []int64) [][]impl.Slot {
	lists := [][]impl.Slot{nil}
	for begin := 0; longest > 0; longest-- {
		end := len(lists)
		for _, list := range lists[begin:end] {
			for _, beam := range beams {
				for _, at := range ticks {
					lists = append(lists, append(slices.Clone(list), impl.Slot{Beam: beam, At: at}))
				}
			}
		}
		begin = end
	}
	return lists
}

func TestShortPlans(t *testing.T) {
	plans := 0
	ticks := []int64{-1, 0, 1, 2, 3, 4, 5, 6, 7, 8, 100000, 100001}
	for _, beams := range [][]impl.Beam{{beamAt(0, 1, 3), beamAt(17, 2, 4)}, loads(1, 2, 1, 1), loads(3, 3)} {
		for k, slots := range slotLists(3, []int64{-1, 0, 1, 2}, ticks) {
			want := isPlanTold(beams, slots)
			areSlots(t, beams, slots, int64(k%14), want)
			if want {
				plans++
			}
		}
	}
	isEqual(t, "plans", plans > 200, true)
}

func TestPlansOfMaxSlots(t *testing.T) {
	beams := loads(1, 5, 1, 1)
	for _, count := range []int64{199, 200, 201, 1000} {
		slots := []impl.Slot{}
		for at := range count {
			slots = append(slots, impl.Slot{Beam: 1, At: at})
		}
		areSlots(t, beams, slots, 150, count <= 200)
	}
}

// slots draws a plan: each job begins as early as it can, or later.
func (d *drawer) slots(beams []impl.Beam, count int, latest int64) []impl.Slot {
	list := []impl.Slot{}
	for k := range count {
		s := impl.Slot{Beam: d.from(0, int64(len(beams))-1)}
		list = append(list, s)
		s.At = numberOf(list, k) * beams[s.Beam].Every
		if k > 0 {
			before := list[k-1]
			other := beams[before.Beam]
			s.At = max(s.At, before.At+other.Dwell+turnTold(other.Direction, beams[s.Beam].Direction))
		}
		s.At += d.from(0, latest) * d.from(0, 1)
		list[k] = s
	}
	return list
}

// Plans of any beams are plans, and none if one slot begins earlier, unless there is
// time before it.
func TestAnyPlans(t *testing.T) {
	plans, others := 0, 0
	for seed := range 4000 {
		d := drawerFrom(seed)
		beams := d.beams(1+seed%7, 45, []int64{4, 30, 300}[seed%3])
		slots := d.slots(beams, seed%30, int64(seed%9))
		areSlots(t, beams, slots, d.from(0, d.from(1, 3000)), isPlanTold(beams, slots))
		isEqual(t, "drawn plan", isPlanTold(beams, slots), true)
		for k := range slots {
			earlier := slices.Clone(slots)
			earlier[k].At--
			if isPlanTold(beams, earlier) {
				plans++
			} else {
				others++
			}
			isEqual(t, fmt.Sprint("plan ", beams, earlier), impl.IsPlan(beams, earlier), isPlanTold(beams, earlier))
		}
	}
	isEqual(t, "plans and others", plans > 5000 && others > 5000, true)
}

func TestLatenessOf(t *testing.T) {
	cases := []struct {
		beams       []impl.Beam
		slots, want []int64
	}{
		{loads(1, 4, 2, 8), nil, []int64{}},
		{loads(1, 4, 2, 8), []int64{0, 0, 1, 1, 0, 4}, []int64{0, 0, 0}},
		{loads(1, 4), []int64{0, 7}, []int64{4}},
		{loads(1, 4), []int64{0, 3}, []int64{0}},
		{loads(1, 4), []int64{0, 4}, []int64{1}},
		{loads(4, 4), []int64{0, 0, 0, 5, 0, 9}, []int64{0, 1, 1}},
		{loads(1, 4), []int64{0, 90, 0, 91, 0, 92}, []int64{87, 84, 81}},
		{loads(10000, 10000), []int64{0, 100000}, []int64{100000}},
		{loads(2, 4, 3, 3), []int64{1, 0, 0, 3, 1, 5, 1, 8, 0, 11}, []int64{0, 1, 2, 2, 5}},
	}
	for _, c := range cases {
		slots := slotsOf(c.slots...)
		got, ok := impl.LatenessOf(c.beams, slots)
		isResult(t, fmt.Sprint("lateness of ", c.beams, slots), got, ok, c.want)
		areSlots(t, c.beams, slots, 7, true)
	}
}

func TestMissedOf(t *testing.T) {
	cases := []struct {
		beams []impl.Beam
		slots []int64
		until int64
		want  []int64
	}{
		{loads(1, 4, 2, 8), []int64{0, 0, 1, 1, 0, 4}, 8, []int64{0, 0}},
		{loads(1, 4, 2, 8), []int64{0, 0, 1, 1, 0, 4}, 11, []int64{0, 0}},
		{loads(1, 4, 2, 8), []int64{0, 0, 1, 1, 0, 4}, 12, []int64{1, 0}},
		{loads(1, 4, 2, 8), nil, 16, []int64{4, 2}},
		{loads(1, 4, 2, 8), nil, 15, []int64{3, 1}},
		{loads(1, 4, 2, 8), nil, 3, []int64{0, 0}},
		{loads(1, 4, 2, 8), nil, 4, []int64{1, 0}},
		{loads(1, 4), nil, 0, []int64{0}},
		{loads(1, 4), []int64{0, 0}, 0, []int64{0}},
		{loads(1, 1), nil, 100000, []int64{100000}},
		{loads(1, 1), []int64{0, 99999}, 100000, []int64{99999}},
		{loads(1, 1), []int64{0, 100000}, 100000, []int64{100000}},
		{loads(1, 9999), nil, 100000, []int64{10}},
		// A job that is due at until ends just at it, or one tick behind it.
		{loads(3, 8), []int64{0, 5}, 8, []int64{0}},
		{loads(3, 8), []int64{0, 6}, 8, []int64{1}},
		// A late job is not missed if it ends by until, though behind its due tick.
		{loads(1, 4), []int64{0, 4}, 4, []int64{1}},
		{loads(1, 4), []int64{0, 4}, 5, []int64{0}},
		{loads(1, 4), []int64{0, 7}, 7, []int64{1}},
		{loads(1, 4), []int64{0, 7}, 8, []int64{1}},
		{loads(1, 4), []int64{0, 7, 0, 8}, 8, []int64{1}},
		{loads(1, 4), []int64{0, 7, 0, 8}, 9, []int64{0}},
		// A job that ends by until, but is due behind it, is not one of these.
		{loads(1, 10), []int64{0, 0}, 5, []int64{0}},
		{loads(1, 4), []int64{0, 0, 0, 4}, 7, []int64{0}},
		{loads(1, 4, 1, 2), []int64{0, 0, 0, 4}, 7, []int64{0, 3}},
		{loads(1, 4, 1, 2), []int64{1, 0, 1, 2, 0, 4, 1, 5, 0, 6}, 8, []int64{0, 1}},
	}
	for _, c := range cases {
		slots := slotsOf(c.slots...)
		got, ok := impl.MissedOf(c.beams, slots, c.until)
		isResult(t, fmt.Sprint("missed of ", c.beams, slots, c.until), got, ok, c.want)
		areSlots(t, c.beams, slots, c.until, true)
	}
	for _, until := range append(farIntegers(), -100000, -1, 100001, 100002) {
		got, ok := impl.MissedOf(loads(1, 4), slotsOf(0, 0), until)
		isResult(t, fmt.Sprint("missed until ", until), got, ok, nil)
	}
}

// Promise 10: in plans by due ticks, just the jobs are missed that have not ended.
func TestMissedJobsOfPlans(t *testing.T) {
	none, some := 0, 0
	for seed := range 1500 {
		d := drawerFrom(seed)
		beams := d.beams(1+seed%7, []int64{0, 45}[seed%2], []int64{6, 30, 400}[seed%3])
		slots, _ := impl.PlanBeams(beams, 10000)
		for range 5 {
			until := d.from(0, 1000)
			got, ok := impl.MissedOf(beams, slots, until)
			isResult(t, fmt.Sprint("missed of ", beams, until), got, ok, missedTold(beams, slots, until))
			if slices.Max(got) == 0 {
				none++
			} else {
				some++
			}
		}
	}
	isEqual(t, "jobs missed and not", none > 1000 && some > 1000, true)
}

func TestBusyTicks(t *testing.T) {
	turned := []impl.Beam{beamAt(0, 1, 4), beamAt(17, 3, 6), beamAt(-64, 10, 10)}
	cases := []struct {
		slots []int64
		want  [2]int64
	}{
		{nil, [2]int64{0, 0}},
		{[]int64{1, 70}, [2]int64{3, 0}},
		{[]int64{0, 0, 0, 4, 0, 90}, [2]int64{3, 0}},
		{[]int64{0, 0, 1, 3}, [2]int64{4, 2}},
		{[]int64{0, 0, 1, 30, 0, 99}, [2]int64{5, 4}},
		{[]int64{2, 0, 1, 16, 0, 21}, [2]int64{14, 8}},
	}
	for _, c := range cases {
		dwells, turns, ok := impl.BusyTicks(turned, slotsOf(c.slots...))
		isEqual(t, "busy ticks", ok, true)
		isEqual(t, fmt.Sprint("busy ticks of ", c.slots), [2]int64{dwells, turns}, c.want)
	}
	// The longest dwells that a plan can have.
	dwells, turns, ok := impl.BusyTicks(loads(10000, 10000), slotsOf(0, 0, 0, 10000, 0, 20000, 0, 30000, 0, 40000, 0, 50000, 0, 60000, 0, 70000, 0, 80000, 0, 90000, 0, 100000))
	isEqual(t, "longest dwells", ok, true)
	isEqual(t, "longest dwells", [2]int64{dwells, turns}, [2]int64{110000, 0})
}

func TestPlansRefuse(t *testing.T) {
	for _, beams := range wrongBeams() {
		for _, slots := range [][]impl.Slot{nil, slotsOf(0, 0), slotsOf(0, 50, 0, 30000)} {
			areSlots(t, beams, slots, 5, false)
		}
	}
	for _, n := range append(farIntegers(), -100001, -100, -2, -1, 100001, 100002) {
		for _, slots := range [][]impl.Slot{slotsOf(n, 0), slotsOf(0, n), slotsOf(n, n), slotsOf(0, 0, n, 50), slotsOf(0, 0, 0, n), slotsOf(0, n, 0, 90000)} {
			areSlots(t, loads(1, 4, 1, 5), slots, 5, false)
		}
	}
}
