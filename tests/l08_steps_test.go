package tests

import (
	"fmt"
	"math"
	"slices"
	"testing"

	"loop.example/g01181/impl"
)

// adapter returns the adapter with some weights.
func adapter(step, bound float32, weights ...complex64) impl.Adapter {
	return impl.Adapter{Weights: weights, Step: step, Bound: bound}
}

// wrongAdapters returns adapters with no or too many weights, and with bounds that are
// not finite or not greater than 0, all of which are not valid.
func wrongAdapters() []impl.Adapter {
	wrong := []impl.Adapter{{}, {Step: 1, Bound: 1}, {Weights: []complex64{}, Bound: 1}, {Weights: ones(1)}}
	for _, bound := range []float32{0, minusZero(), -1, -math.SmallestNonzeroFloat32, nan32(), inf32(), -inf32(), -math.MaxFloat32} {
		wrong = append(wrong, adapter(1, bound, ones(2)...))
	}
	return append(wrong, adapter(1, 1, ones(17)...), adapter(1, 1, ones(64)...))
}

// isAdapter fails the test unless got has the same weights, step and bound as want.
func isAdapter(t *testing.T, what string, got, want impl.Adapter) {
	t.Helper()
	if !sameList(got.Weights, want.Weights) {
		t.Errorf("%s: got %v, want %v", what, got.Weights, want.Weights)
	}
	isNumber(t, what+", step", got.Step, want.Step)
	isNumber(t, what+", bound", got.Bound, want.Bound)
}

// powersTold returns the sum of powers, narrowed.
func powersTold(list []complex64) float32 {
	sum := 0.0
	for _, x := range list {
		re, im := float64(real(x)), float64(imag(x))
		sum += float64(re*re) + float64(im*im)
	}
	return float32(sum)
}

// stepTold returns the adapter behind a step, and the error.
func stepTold(a impl.Adapter, shot []complex64, wanted complex64) (impl.Adapter, complex64) {
	e := minus(wanted, dotTold(a.Weights, shot))
	p := 1 + powersTold(shot)
	m := a.Step / p
	c := scaled(complex(real(e), -imag(e)), m)
	var weights []complex64
	for k, x := range a.Weights {
		weights = append(weights, plus(x, impl.MulComplex(shot[k], c)))
	}
	if q := powersTold(weights); q > a.Bound {
		by := float32(math.Sqrt(float64(a.Bound / q)))
		for k, x := range weights {
			weights[k] = scaled(x, by)
		}
	}
	return adapter(a.Step, a.Bound, weights...), e
}

// isStep fails the test unless StepAdapter and OutputOf return what is told.
func isStep(t *testing.T, a impl.Adapter, shot []complex64, wanted complex64) {
	t.Helper()
	what := fmt.Sprint("step of ", a, shot, wanted)
	want, e := stepTold(a, shot, wanted)
	got, miss, ok := impl.StepAdapter(a, shot, wanted)
	isEqual(t, what+" taken", ok, true)
	isAdapter(t, what, got, want)
	isComplex(t, what+", error", miss, e)
	output, ok := impl.OutputOf(a, shot)
	isEqual(t, what+", output taken", ok, true)
	isComplex(t, what+", output", output, dotTold(a.Weights, shot))
}

func TestValidAdapter(t *testing.T) {
	for count := range 40 {
		isEqual(t, fmt.Sprint("weights ", count), impl.ValidAdapter(adapter(1, 1, ones(count)...)), count >= 1 && count <= 16)
	}
	for _, x := range oddNumbers() {
		isEqual(t, fmt.Sprint("step ", x), impl.ValidAdapter(adapter(x, 1, 1)), true)
		isEqual(t, fmt.Sprint("bound ", x), impl.ValidAdapter(adapter(1, x, 1)), x > 0 && x <= math.MaxFloat32)
	}
	for _, x := range oddComplexes() {
		isEqual(t, fmt.Sprint("weight ", x), impl.ValidAdapter(adapter(1, 1, 1, x)), true)
	}
	// Weights can be greater than the bound as long as no step has been made.
	isEqual(t, "great weights", impl.ValidAdapter(adapter(1, 1, 9, 9)), true)
	for _, wrong := range wrongAdapters() {
		isEqual(t, fmt.Sprint("adapter ", wrong), impl.ValidAdapter(wrong), false)
	}
}

func TestSameAdapter(t *testing.T) {
	numbers, odd := oddNumbers(), oddComplexes()
	for i, x := range numbers {
		for j, y := range numbers {
			same := sameBits(x, y)
			isEqual(t, fmt.Sprint("steps ", i, j), impl.SameAdapter(adapter(x, 1, 1), adapter(y, 1, 1)), same)
			isEqual(t, fmt.Sprint("bounds ", i, j), impl.SameAdapter(adapter(1, x, 1), adapter(1, y, 1)), same)
			isEqual(t, fmt.Sprint("exchanged ", i, j), impl.SameAdapter(adapter(x, y, 1), adapter(y, x, 1)), same)
		}
	}
	for i, x := range odd {
		y := odd[i*7%len(odd)]
		same := sameList([]complex64{x}, []complex64{y})
		for at := range 16 {
			one, other := ones(16), ones(16)
			one[at], other[at] = x, y
			isEqual(t, fmt.Sprint("weights ", x, y, at), impl.SameAdapter(adapter(1, 1, one...), adapter(1, 1, other...)), same)
		}
	}
	for i := range 20 {
		for j := range 20 {
			isEqual(t, fmt.Sprint("numbers of weights ", i, j), impl.SameAdapter(adapter(1, 1, ones(i)...), adapter(1, 1, ones(j)...)), i == j)
		}
	}
	// Adapters that are not valid can be the same, too.
	for i, a := range wrongAdapters() {
		for j, b := range wrongAdapters() {
			same := sameList(a.Weights, b.Weights) && sameBits(a.Step, b.Step) && sameBits(a.Bound, b.Bound)
			isEqual(t, fmt.Sprint("adapters ", i, j), impl.SameAdapter(a, b), same)
		}
	}
	isEqual(t, "nothing", impl.SameAdapter(impl.Adapter{}, impl.Adapter{Weights: []complex64{}}), true)
}

func TestOutputOf(t *testing.T) {
	i := complex64(complex(0, 1))
	cases := []struct {
		weights, shot []complex64
		want          complex64
	}{
		{[]complex64{0.5}, []complex64{2}, 1},
		// The conjugates are those of the weights.
		{[]complex64{i}, []complex64{1}, complex(0, -1)},
		{[]complex64{1}, []complex64{i}, i},
		{[]complex64{i, 2}, []complex64{i, complex(3, -1)}, complex(7, -2)},
		{[]complex64{1e8, 1, -1e8}, ones(3), 0},
		{[]complex64{complex(minusZero(), minusZero())}, []complex64{1}, 0},
		{[]complex64{1}, []complex64{complex(inf32(), 0)}, complex(inf32(), nan32())},
		{[]complex64{1, 1}, []complex64{complex(3e38, 0), complex(3e38, 0)}, complex(inf32(), 0)},
		{[]complex64{1, complex(0, nan32())}, ones(2), complex(nan32(), nan32())},
	}
	for _, c := range cases {
		got, ok := impl.OutputOf(adapter(1, 1, c.weights...), c.shot)
		isEqual(t, "output taken", ok, true)
		isComplex(t, fmt.Sprint("output of ", c.weights, c.shot), got, c.want)
	}
}

func TestStepAdapter(t *testing.T) {
	i, none := complex64(complex(0, 1)), complex(minusZero(), minusZero())
	cases := []struct {
		a       impl.Adapter
		shot    []complex64
		wanted  complex64
		weights []complex64
		e       complex64
	}{
		{adapter(1, 4, 0), []complex64{1}, 1, []complex64{0.5}, 1},
		{adapter(2, 4, 0), []complex64{1}, 1, []complex64{1}, 1},
		{adapter(-1, 4, 0), []complex64{1}, 1, []complex64{-0.5}, 1},
		// The conjugate is that of the error, not that of the shot.
		{adapter(1, 4, 0), []complex64{i}, 1, []complex64{complex(0, 0.5)}, 1},
		{adapter(1, 4, 0), []complex64{1}, i, []complex64{complex(0, -0.5)}, i},
		{adapter(1, 4, 0), []complex64{i}, i, []complex64{0.5}, i},
		{adapter(1, 99, 2*i), []complex64{1}, 0, []complex64{i}, 2 * i},
		{adapter(4, 99, 1, 2), []complex64{1, complex(1, 1)}, complex(4, 2), []complex64{2, complex(3, 1)}, 1},
		// A step of 0 changes nothing but weights above the bound.
		{adapter(0, 5, 1, 2*i), []complex64{5, 7}, 99, []complex64{1, 2 * i}, complex(94, 14)},
		{adapter(minusZero(), 5, 1, 2*i), []complex64{5, 7}, 99, []complex64{1, 2 * i}, complex(94, 14)},
		{adapter(0, 4, 4), []complex64{1}, 0, []complex64{2}, -4},
		{adapter(0, 1, 0, 4*i), []complex64{1, 1}, 0, []complex64{0, i}, 4 * i},
		// Zeros lose their signs to the zeros that are added.
		{adapter(1, 1, none), []complex64{1}, 0, []complex64{0}, 0},
		// The silence of a shot changes nothing.
		{adapter(1, 4, 1, i), []complex64{0, 0}, complex(3, -2), []complex64{1, i}, complex(3, -2)},
	}
	for _, c := range cases {
		what := fmt.Sprint("step of ", c.a, c.shot, c.wanted)
		got, e, ok := impl.StepAdapter(c.a, c.shot, c.wanted)
		isEqual(t, what+" taken", ok, true)
		isAdapter(t, what, got, adapter(c.a.Step, c.a.Bound, c.weights...))
		isComplex(t, what+", error", e, c.e)
		isStep(t, c.a, c.shot, c.wanted)
	}
}

// Steps with infinities and not-a-numbers are told like others.
func TestStepsThatAreNotFinite(t *testing.T) {
	none, wide := complex(nan32(), nan32()), complex64(complex(inf32(), 0))
	cases := []struct {
		a      impl.Adapter
		shot   []complex64
		wanted complex64
		want   []complex64
	}{
		{adapter(nan32(), 4, 1), []complex64{1}, 1, []complex64{none}},
		{adapter(inf32(), 4, 1), []complex64{1}, 1, []complex64{none}},
		{adapter(inf32(), 4, 0), []complex64{1}, complex(1, 1), []complex64{none}},
		{adapter(-inf32(), 4, 1), []complex64{complex(1, 1)}, complex(3, 3), []complex64{complex(-inf32(), nan32())}},
		// The power of the shot is an infinity, so the step is nothing.
		{adapter(1, 4, 1), []complex64{3e30}, 5, []complex64{1}},
		{adapter(1, 4, 1, 1), []complex64{3e38, 3e38}, 5, []complex64{none, none}},
		{adapter(inf32(), 4, 1), []complex64{3e30}, 5, []complex64{none}},
		{adapter(1, 4, 1), []complex64{wide}, 5, []complex64{none}},
		{adapter(1, 4, 0, 1), []complex64{1e30, 1}, 1, []complex64{0, 1}},
		{adapter(1, 4, 1), []complex64{1}, wide, []complex64{complex(inf32(), nan32())}},
		// The power of the weights is an infinity, so nothing is left of them, or nothing that is a number.
		{adapter(0, 4, 3e30, 1), []complex64{1, 1}, 0, []complex64{0, 0}},
		{adapter(0, math.MaxFloat32, 3e30), []complex64{0}, 0, []complex64{0}},
		{adapter(0, 4, wide, 1), []complex64{0, 0}, 0, []complex64{none, none}},
		{adapter(0, 4, complex(nan32(), 9)), []complex64{0}, 0, []complex64{none}},
	}
	for k, c := range cases {
		got, _, ok := impl.StepAdapter(c.a, c.shot, c.wanted)
		isEqual(t, fmt.Sprint("step taken ", k), ok, true)
		isAdapter(t, fmt.Sprint("step ", k), got, adapter(c.a.Step, c.a.Bound, c.want...))
		isStep(t, c.a, c.shot, c.wanted)
	}
}

// Promise 9: weights are made less only where their power, as a 32-bit number, is
// greater than the bound.
func TestStepsAtTheBound(t *testing.T) {
	const unit = 1.0 / (1 << 22)
	few := float32(1.0 / (1 << 11))
	cases := []struct {
		weights []complex64
		bound   float32
		want    []complex64
	}{
		{[]complex64{4}, 16, []complex64{4}},
		{[]complex64{4}, math.Nextafter32(16, 17), []complex64{4}},
		{[]complex64{3, 4}, 25, []complex64{3, 4}},
		{[]complex64{complex(3, -4)}, 25, []complex64{complex(3, -4)}},
		{[]complex64{4}, 16 - 2*4*unit, []complex64{4 - unit}},
		// The power of these is 4 by rounding, and that of the next ones is not.
		{[]complex64{2, complex(few, 0)}, 4, []complex64{2, complex(few, 0)}},
		{[]complex64{2, complex(0, math.Nextafter32(few, 1))}, 4, []complex64{2 - unit/2, complex(0, few)}},
		{[]complex64{4, complex(0, -4)}, 8, []complex64{2, complex(0, -2)}},
		{[]complex64{1e19}, math.MaxFloat32, []complex64{1e19}},
		{[]complex64{3e-23}, math.SmallestNonzeroFloat32, []complex64{3e-23}},
	}
	for _, c := range cases {
		for _, step := range []float32{0, 1, -7} {
			a, shot := adapter(step, c.bound, c.weights...), make([]complex64, len(c.weights))
			got, _, ok := impl.StepAdapter(a, shot, 5)
			isEqual(t, "step taken", ok, true)
			isAdapter(t, fmt.Sprint("step of ", a), got, adapter(step, c.bound, c.want...))
			isStep(t, a, shot, 5)
		}
	}
}

// Promise 9: steps stay within their bound but for rounding, from whatever weights.
func TestStepsStayWithinTheirBound(t *testing.T) {
	scaled := 0
	for size := 1; size <= 16; size++ {
		for seed := range uint32(60) {
			numbers := drawn(seed+77, size+1)
			step, bound := float32(seed%7)-1.5, []float32{0.01, 0.7, 1, 3, 40}[seed%5]
			a := adapter(step, bound, drawn(seed, size)...)
			for range 3 {
				var ok bool
				before := powersTold(a.Weights)
				a, _, ok = impl.StepAdapter(a, numbers[:size], 9*numbers[size])
				isEqual(t, "step taken", ok && impl.ValidAdapter(a), true)
				if before > bound {
					scaled++
				}
				within := float64(powersTold(a.Weights)) <= float64(bound)*(1+1e-6)
				isEqual(t, fmt.Sprint("within ", bound, a.Weights), within, true)
			}
		}
	}
	isEqual(t, "weights above the bound", scaled > 50, true)
}

// Promise 9: steps have the told bits for all numbers of weights.
func TestStepsToTheBit(t *testing.T) {
	for size := 1; size <= 16; size++ {
		for seed := range uint32(60) {
			numbers := drawn(seed+99, size+1)
			step, bound := float32(seed)/9-2, float32(seed%8+1)/4
			isStep(t, adapter(step, bound, drawn(seed, size)...), numbers[:size], numbers[size])
		}
	}
}

// Promise 9: this holds for any numbers.
func TestStepsOfOddNumbers(t *testing.T) {
	odd, numbers := oddComplexes(), oddNumbers()
	for k, x := range odd {
		list := drawn(uint32(k), 9)
		weights, shot := slices.Clone(list[:4]), slices.Clone(list[4:8])
		step, bound := numbers[k*3%len(numbers)], float32(k%5+1)/2
		isStep(t, adapter(1, bound, weights...), shot, x)
		isStep(t, adapter(step, bound, weights...), shot, list[8])
		weights[k%4] = x
		isStep(t, adapter(1, bound, weights...), shot, list[8])
		shot[k/4%4] = odd[k*7%len(odd)]
		isStep(t, adapter(step, bound, weights...), shot, odd[k*5%len(odd)])
		isStep(t, adapter(1, math.MaxFloat32, weights...), shot, list[8])
		isStep(t, adapter(1, math.SmallestNonzeroFloat32, list[:4]...), shot, list[8])
	}
}

// Promise 9: a perfect reference changes nothing, with whatever finite step.
func TestPerfectReferencesChangeNothing(t *testing.T) {
	for size := 1; size <= 16; size++ {
		for seed := range uint32(40) {
			weights := drawn(seed, size)
			bound, step := powersTold(weights), float32(seed%9)-4
			a := adapter(step, bound, weights...)
			shots := drawnMatrix(seed+5, 1+int(seed), size).Rows
			var wanted []complex64
			for _, shot := range shots {
				output, _ := impl.OutputOf(a, shot)
				wanted = append(wanted, output)
				got, e, ok := impl.StepAdapter(a, shot, output)
				isEqual(t, "step taken", ok && impl.SameAdapter(got, a), true)
				isComplex(t, "no error", e, 0)
			}
			got, errors, ok := impl.RunAdapter(a, shots, wanted)
			isEqual(t, "run taken", ok && impl.SameAdapter(got, a), true)
			isWeights(t, "no errors", errors, ok, make([]complex64, len(shots)))
		}
	}
}

// isStepRefused fails the test unless OutputOf and StepAdapter return nothing.
func isStepRefused(t *testing.T, a impl.Adapter, shot []complex64) {
	t.Helper()
	what := fmt.Sprint(" of ", a, shot)
	output, ok := impl.OutputOf(a, shot)
	isEqual(t, "output"+what, ok, false)
	isComplex(t, "output"+what, output, 0)
	got, e, ok := impl.StepAdapter(a, shot, 1)
	isEqual(t, "step"+what, ok, false)
	isAdapter(t, "step"+what, got, impl.Adapter{})
	isComplex(t, "error"+what, e, 0)
}

func TestStepAdapterRefuses(t *testing.T) {
	for _, wrong := range wrongAdapters() {
		isStepRefused(t, wrong, ones(len(wrong.Weights)))
		isStepRefused(t, wrong, ones(1))
	}
	for count := range 20 {
		for other := range 20 {
			a := adapter(1, 99, ones(count)...)
			if count != other || count < 1 || count > 16 {
				isStepRefused(t, a, ones(other))
				continue
			}
			isStep(t, a, ones(other), 2)
		}
	}
}
