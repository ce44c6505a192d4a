package tests

import (
	"fmt"
	"slices"
	"testing"

	"loop.example/g01181/impl"
)

// planTold plans jobs, where the clock waits tick by tick.
func planTold(beams []impl.Beam, until int64) []impl.Slot {
	slots, done, clock := []impl.Slot{}, make([]int64, len(beams)), int64(0)
	for len(slots) < 200 {
		best := -1
		for k, b := range beams {
			if done[k]*b.Every > clock {
				continue
			}
			if best < 0 || (done[k]+1)*b.Every < (done[best]+1)*beams[best].Every {
				best = k
			}
		}
		if best < 0 {
			clock++
			continue
		}
		if len(slots) > 0 {
			clock += turnTold(beams[slots[len(slots)-1].Beam].Direction, beams[best].Direction)
		}
		if clock >= until {
			break
		}
		slots = append(slots, impl.Slot{Beam: int64(best), At: clock})
		done[best]++
		clock += beams[best].Dwell
	}
	return slots
}

// isPlanned fails the test unless the plan is as told, and a plan.
func isPlanned(t *testing.T, beams []impl.Beam, until int64) {
	t.Helper()
	got, ok := impl.PlanBeams(beams, until)
	what := fmt.Sprint("plan of ", beams, until)
	isResult(t, what, got, ok, planTold(beams, until))
	isEqual(t, what+" is one", impl.IsPlan(beams, got), true)
}

// slotsOf returns slots by their beams and ticks, in turn.
func slotsOf(numbers ...int64) []impl.Slot {
	list := []impl.Slot{}
	for pair := range slices.Chunk(numbers, 2) {
		list = append(list, impl.Slot{Beam: pair[0], At: pair[1]})
	}
	return list
}

func TestPlanBeams(t *testing.T) {
	turned := []impl.Beam{beamAt(0, 1, 10), beamAt(17, 1, 10)}
	far := []impl.Beam{beamAt(0, 1, 4), beamAt(64, 1, 10), beamAt(0, 1, 20)}
	cases := []struct {
		what  string
		beams []impl.Beam
		until int64
		want  []int64
	}{
		{"the example", loads(1, 4, 2, 8), 8, []int64{0, 0, 1, 1, 0, 4}},
		{"a job that begins just before until", loads(1, 4, 2, 8), 9, []int64{0, 0, 1, 1, 0, 4, 0, 8}},
		{"another one behind it", loads(1, 4, 2, 8), 10, []int64{0, 0, 1, 1, 0, 4, 0, 8, 1, 9}},
		{"no ticks", loads(1, 4, 2, 8), 0, nil},
		{"one tick", loads(1, 4, 2, 8), 1, []int64{0, 0}},
		{"a job that ends behind until", loads(9, 9), 1, []int64{0, 0}},
		{"the same due tick", loads(2, 6, 2, 6), 9, []int64{0, 0, 1, 2, 0, 6, 1, 8}},
		{"the least due tick", loads(1, 6, 1, 3), 9, []int64{1, 0, 0, 1, 1, 3, 1, 6, 0, 7}},
		{"the same due tick of other jobs", loads(1, 6, 3, 3), 7, []int64{1, 0, 0, 3, 1, 4}},
		{"the same due tick, and another order", loads(3, 3, 1, 6), 8, []int64{0, 0, 0, 3, 1, 6, 0, 7}},
		{"jobs that come meanwhile", loads(5, 20, 1, 3), 13, []int64{1, 0, 0, 1, 1, 6, 1, 7, 1, 9, 1, 12}},
		{"turns that take ticks", turned, 26, []int64{0, 0, 1, 3, 0, 12, 1, 15, 0, 22, 1, 25}},
		{"a turn that ends just at until", turned, 3, []int64{0, 0}},
		{"a turn that ends just before until", turned, 4, []int64{0, 0, 1, 3}},
		{"a turn behind the first wait", turned, 12, []int64{0, 0, 1, 3}},
		{"a turn that is too long for another job", far, 5, []int64{0, 0}},
		{"a turn that is just short enough", far, 6, []int64{0, 0, 1, 5}},
		{"turns back", far, 22, []int64{0, 0, 1, 5, 0, 10, 0, 11, 0, 12, 1, 17}},
		{"turns back again", far, 24, []int64{0, 0, 1, 5, 0, 10, 0, 11, 0, 12, 1, 17, 0, 22, 2, 23}},
		// The job of 0 that comes at 4 is taken by the clock 6 only, and turned to.
		{"jobs that come during a turn", []impl.Beam{beamAt(0, 1, 4), beamAt(64, 1, 100)}, 16, []int64{0, 0, 1, 5, 0, 10, 0, 11, 0, 12}},
		{"jobs later than the next ones come", loads(3, 3, 2, 5), 16, []int64{0, 0, 1, 3, 0, 5, 0, 8, 1, 11, 0, 13}},
		{"no overtaking", loads(10, 10, 1, 2), 14, []int64{1, 0, 0, 1, 1, 11, 1, 12, 1, 13}},
		{"a long wait", loads(1, 10000), 10000, []int64{0, 0}},
		{"long jobs", loads(10000, 10000, 9999, 10000), 10000, []int64{0, 0}},
		{"long jobs that leave one tick", loads(9999, 10000, 1, 10000), 10000, []int64{0, 0, 1, 9999}},
		{"the last tick", loads(1, 9999), 10000, []int64{0, 0, 0, 9999}},
	}
	for _, c := range cases {
		got, ok := impl.PlanBeams(c.beams, c.until)
		isResult(t, c.what, got, ok, slotsOf(c.want...))
		isPlanned(t, c.beams, c.until)
	}
}

func TestPlanBeamsUpToMaxSlots(t *testing.T) {
	for _, c := range []struct {
		beams []impl.Beam
		until int64
		want  int
	}{
		{loads(1, 1), 199, 199}, {loads(1, 1), 200, 200}, {loads(1, 1), 201, 200}, {loads(1, 1), 10000, 200},
		{loads(1, 50), 9950, 199}, {loads(1, 50), 9951, 200}, {loads(1, 50), 10000, 200},
		{loads(50, 50, 1, 9999), 10000, 200},
		{equalBeams(7, 1, 2), 199, 199}, {equalBeams(7, 1, 2), 10000, 200},
		{loads(1, 51), 10000, 197}, {loads(51, 51), 10000, 197},
	} {
		got, ok := impl.PlanBeams(c.beams, c.until)
		isEqual(t, fmt.Sprint("slots of ", c.beams, c.until), ok, true)
		isEqual(t, fmt.Sprint("slots of ", c.beams, c.until), len(got), c.want)
		isPlanned(t, c.beams, c.until)
	}
}

// Beams of all numbers, near and far, with few and many jobs, are planned as told.
func TestPlanOfAnyBeams(t *testing.T) {
	full, late := 0, 0
	for seed := range 6000 {
		d := drawerFrom(seed)
		beams := d.beams(1+seed%7, []int64{0, 8, 20, 45}[seed%4], []int64{3, 12, 60, 500, 10000}[seed%5])
		isPlanned(t, beams, 10000)
		for range 4 {
			isPlanned(t, beams, d.from(0, d.from(1, 10000)))
		}
		slots, _ := impl.PlanBeams(beams, 10000)
		if len(slots) == 200 {
			full++
		}
		lateness, _ := impl.LatenessOf(beams, slots)
		if slices.Max(lateness) > 0 {
			late++
		}
	}
	isEqual(t, "full plans", full > 1000 && full < 5000, true)
	isEqual(t, "late plans", late > 1000 && late < 5900, true)
}

// A lesser until only ends the same plan earlier.
func TestPlansBeginAlike(t *testing.T) {
	for seed := range 60 {
		d := drawerFrom(seed)
		beams := d.beams(1+seed%7, 45, 40)
		whole, _ := impl.PlanBeams(beams, 10000)
		for until := range int64(300) {
			behind := slices.IndexFunc(whole, func(s impl.Slot) bool { return s.At >= until })
			if behind < 0 {
				behind = len(whole)
			}
			got, ok := impl.PlanBeams(beams, until)
			isResult(t, fmt.Sprint("plan of ", beams, until), got, ok, append([]impl.Slot{}, whole[:behind]...))
		}
	}
}

// Promise 10: where all dwells are one tick and no turn takes any, no job is late
// unless the load is greater than 1.
func TestShortJobsAreNotLate(t *testing.T) {
	kept, broken := 0, 0
	for seed := range 4000 {
		d := drawerFrom(seed)
		beams := d.beams(1+seed%7, 0, int64(2+seed%23))
		for k := range beams {
			beams[k].Dwell = 1
		}
		top, bottom, _ := impl.LoadOf(beams)
		slots, _ := impl.PlanBeams(beams, 10000)
		late, ok := impl.LatenessOf(beams, slots)
		isEqual(t, "lateness told", ok && len(late) == len(slots), true)
		if top <= bottom {
			isEqual(t, fmt.Sprint("late job of ", beams), slices.Max(late), 0)
			kept++
		} else if slices.Max(late) > 0 {
			broken++
		}
	}
	isEqual(t, "plans on time and late", kept > 500 && broken > 500, true)
}

func TestPlanBeamsRefuses(t *testing.T) {
	for _, beams := range wrongBeams() {
		for _, until := range []int64{0, 1, 100, 10000} {
			got, ok := impl.PlanBeams(beams, until)
			isResult(t, fmt.Sprint("plan of ", len(beams)), got, ok, nil)
		}
	}
	for _, until := range append(farIntegers(), -10000, -2, -1, 10001, 10002, 100000) {
		got, ok := impl.PlanBeams(loads(1, 4), until)
		isResult(t, fmt.Sprint("plan until ", until), got, ok, nil)
	}
}
