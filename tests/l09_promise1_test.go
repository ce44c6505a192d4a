package tests

import (
	"fmt"
	"slices"
	"testing"

	"loop.example/g01181/impl"
)

// plansReport calls the functions of chapter 9 with beams and slots, and tells all
// results.
func plansReport(beams []impl.Beam, slots []impl.Slot, until int64) string {
	top, bottom, one := impl.LoadOf(beams)
	planned, two := impl.PlanBeams(beams, until)
	late, three := impl.LatenessOf(beams, slots)
	missed, four := impl.MissedOf(beams, slots, until)
	dwells, turns, five := impl.BusyTicks(beams, slots)
	return fmt.Sprintln(one, two, three, four, five, impl.AreBeams(beams), impl.IsPlan(beams, slots), top, bottom, planned, late, missed, dwells, turns)
}

// toursReport calls the other functions of chapter 9, and tells all results.
func toursReport(beams []impl.Beam, directions []impl.Direction, order []int64, d impl.Direction, apart int64) string {
	first := impl.Direction{}
	if len(directions) > 0 {
		first = directions[0]
	}
	turn, one := impl.SwitchTicks(first, d)
	shortest, least, two := impl.ShortestTour(directions)
	ticks, three := impl.TourTicks(directions, order)
	groups, four := impl.FarBeams(beams, apart)
	nearest, five := impl.NearestBeam(beams, d)
	return fmt.Sprintln(one, two, three, four, five, turn, shortest, least, ticks, groups, nearest)
}

// Promise 1: beams, slots, directions and orders stay as they are, with what lies behind
// their ends.
func TestPlansAreNotModified(t *testing.T) {
	for seed := range 200 {
		d := drawerFrom(seed)
		beams := d.beams(9, 45, 30)
		slots, directions, order := d.slots(beams[:7], 12, 4), []impl.Direction{}, []int64{5, 0, 3, 1, 2, 4, 6, 7, 8}
		for range 9 {
			directions = append(directions, d.direction(45))
		}
		wasBeams, wasSlots, wasDirections, wasOrder := slices.Clone(beams), slices.Clone(slots), slices.Clone(directions), slices.Clone(order)
		for count := range 9 {
			few, until := 1+count%7, d.from(0, 300)
			before := plansReport(beams[:few], slots[:count], until)
			isEqual(t, "plans again", plansReport(beams[:few], slots[:count], until), before)
			isEqual(t, "plans of copies", plansReport(slices.Clone(beams[:few]), slices.Clone(slots[:count]), until), before)
			isEqual(t, "plans of all beams", plansReport(beams[:count], slots, until), plansReport(beams[:count], slots, until))
			before = toursReport(beams[:count], directions[:count], order[:count], directions[count], until)
			isEqual(t, "tours again", toursReport(beams[:count], directions[:count], order[:count], directions[count], until), before)
			isEqual(t, "tours of copies", toursReport(slices.Clone(beams[:count]), slices.Clone(directions[:count]), slices.Clone(order[:count]), directions[count], until), before)
		}
		isResult(t, "beams", beams, true, wasBeams)
		isResult(t, "slots", slots, true, wasSlots)
		isResult(t, "directions", directions, true, wasDirections)
		isResult(t, "order", order, true, wasOrder)
	}
}

// Promise 1: nil and empty slices are the same.
func TestNilAndEmptyPlans(t *testing.T) {
	beams, directions, d := loads(1, 4), along(0), impl.Direction{}
	isEqual(t, "no beams", plansReport(nil, nil, 5), plansReport([]impl.Beam{}, []impl.Slot{}, 5))
	isEqual(t, "no slots", plansReport(beams, nil, 5), plansReport(beams, []impl.Slot{}, 5))
	isEqual(t, "no tour", toursReport(nil, nil, nil, d, 5), toursReport([]impl.Beam{}, []impl.Direction{}, []int64{}, d, 5))
	isEqual(t, "no order", toursReport(beams, directions, nil, d, 5), toursReport(beams, directions, []int64{}, d, 5))
}

// Promise 1: all functions of chapter 9 return for integers far from all limits, and for
// wrong beams, directions and orders.
func TestFarIntegersReturnPlans(t *testing.T) {
	numbers := append(farIntegers(), -65, -1, 0, 1, 2, 3, 64, 65, 128, 129, 10000, 10001, 100000, 100001)
	for _, a := range numbers {
		for _, b := range numbers {
			slots := slotsOf(0, 0, 0, a, 1, b)
			beams := []impl.Beam{{Direction: impl.Direction{U: a, V: b}, Dwell: 1, Every: 1}, {Dwell: a, Every: b}}
			for _, beams := range [][]impl.Beam{loads(1, 4, 2, 8), loads(a, b), beams[:1], beams[1:], beams} {
				for _, slots := range [][]impl.Slot{nil, slots, slotsOf(a, b), slotsOf(0, 0, a, b), slotsOf(1, a, 0, b)} {
					isEqual(t, "plans again", plansReport(beams, slots, a), plansReport(beams, slots, a))
				}
				for _, order := range [][]int64{{a, b}, {0, a, b}, {a}, {0, 1}} {
					d := impl.Direction{U: a, V: b}
					isEqual(t, "tours again", toursReport(beams, []impl.Direction{{}, d}, order, d, b), toursReport(beams, []impl.Direction{{}, d}, order, d, b))
				}
			}
		}
	}
	for _, beams := range wrongBeams() {
		isEqual(t, "plans again", plansReport(beams, slotsOf(0, 0, 1, 5), 9), plansReport(beams, slotsOf(0, 0, 1, 5), 9))
	}
	for _, directions := range wrongTours() {
		for _, order := range [][]int64{nil, {0}, upTo(8), upTo(1000)} {
			isEqual(t, "tours again", toursReport(nil, directions, order, impl.Direction{}, 9), toursReport(nil, directions, order, impl.Direction{}, 9))
		}
	}
}

// Promise 1: each result of chapter 9 is new memory, and so is each group.
func TestResultsOfChapter9ShareNoMemory(t *testing.T) {
	beams, slots, directions := loads(1, 4, 2, 8), slotsOf(0, 0, 1, 1, 0, 4), along(0, 48, 16)
	isNewMemory(t, "plan", func() ([]impl.Slot, bool) { return impl.PlanBeams(beams, 8) }, impl.Slot{Beam: 77, At: 99})
	isNewMemory(t, "lateness", func() ([]int64, bool) { return impl.LatenessOf(beams, slots) }, 77)
	isNewMemory(t, "missed", func() ([]int64, bool) { return impl.MissedOf(beams, slots, 8) }, 77)
	isNewMemory(t, "tour", func() ([]int64, bool) {
		order, _, ok := impl.ShortestTour(directions)
		return order, ok
	}, 77)
	isResult(t, "slots", slots, true, slotsOf(0, 0, 1, 1, 0, 4))
	isResult(t, "beams", beams, true, loads(1, 4, 2, 8))
	isResult(t, "directions", directions, true, along(0, 48, 16))
	near := beamsTo(along(0, 10, 20, 30, 40, 50, 60)...)
	groups, _ := impl.FarBeams(near, 20)
	want := [][]int64{{0, 2, 4, 6}, {1, 3, 5}}
	for k, group := range groups {
		isResult(t, "group", group, true, want[k])
		group = group[:cap(group)]
		for n := range group {
			group[n] = 77
		}
	}
	areGroups(t, near, 20, want)
}
