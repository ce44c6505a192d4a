package tests

import (
	"fmt"
	"runtime"
	"testing"

	"loop.example/g01181/impl"
)

// onesShots returns count shots with as many numbers 1 each as told.
func onesShots(count, size int) [][]complex64 {
	return onesMatrix(count, size).Rows
}

// wrongShots returns no shots, too many of them, shots without or with too many
// numbers, and shots of different lengths.
func wrongShots() [][][]complex64 {
	wrong := [][][]complex64{
		nil, {}, {nil}, {{}}, {nil, nil}, {{}, {}}, onesShots(64, 0), onesShots(65, 1), onesShots(65, 8), onesShots(1000, 2),
		onesShots(1, 17), onesShots(64, 17), onesShots(2, 100), {ones(2), ones(1)}, {ones(1), ones(2)}, {nil, ones(1)}, {ones(1), nil},
		{ones(2), ones(2), ones(1)}, {ones(2), ones(2), ones(3)}, {ones(3), ones(2), ones(2)}, {ones(16), ones(17)}, {ones(17), ones(16)},
	}
	for at := range 64 {
		shots := onesShots(64, 2)
		shots[at] = ones(3 - at%3)
		if len(shots[at]) != 2 {
			wrong = append(wrong, shots)
		}
	}
	return wrong
}

func TestAreShots(t *testing.T) {
	for _, count := range []int{0, 1, 2, 4, 5, 63, 64, 65, 66, 200} {
		for size := range 20 {
			isEqual(t, fmt.Sprint("shots ", count, size), impl.AreShots(onesShots(count, size)),
				count >= 1 && count <= 64 && size >= 1 && size <= 16)
		}
	}
	for _, x := range oddComplexes() {
		isEqual(t, "shots of any number", impl.AreShots([][]complex64{{x, 1}, {2, x}}), true)
	}
	for _, wrong := range wrongShots() {
		isEqual(t, fmt.Sprint("shots ", wrong), impl.AreShots(wrong), false)
	}
}

// covarianceTold returns each number of the covariance on its own, as the document
// tells it.
func covarianceTold(shots [][]complex64) [][]complex64 {
	size := len(shots[0])
	by := 1 / float32(len(shots))
	rows := make([][]complex64, size)
	for i := range size {
		for k := range size {
			var whole complex64
			for first := 0; first < len(shots); first += 4 {
				var sum complex64
				for _, shot := range shots[first:min(first+4, len(shots))] {
					sum = plus(sum, impl.MulComplex(shot[i], impl.ConjugateOf(shot[k])))
				}
				whole = plus(whole, sum)
			}
			rows[i] = append(rows[i], scaled(whole, by))
		}
	}
	return rows
}

// isCovariance fails the test unless the covariance of shots is want, for any number
// of workers.
func isCovariance(t *testing.T, shots, want [][]complex64) {
	t.Helper()
	what := fmt.Sprint("covariance of ", len(shots), " shots, the first one ", shots[0])
	got, ok := impl.CovarianceOf(shots)
	isMatrix(t, what, got, ok, want)
	for workers := int64(1); workers <= 8; workers++ {
		got, ok := impl.CovarianceShared(shots, workers)
		isMatrix(t, fmt.Sprint(what, " by ", workers), got, ok, want)
	}
}

// powers returns shots of one number each.
func powers(list ...complex64) [][]complex64 {
	var shots [][]complex64
	for _, x := range list {
		shots = append(shots, []complex64{x})
	}
	return shots
}

func TestCovarianceOf(t *testing.T) {
	i, minus := complex64(complex(0, 1)), minusZero()
	cases := []struct{ shots, want [][]complex64 }{
		{[][]complex64{{1, i}, {1, -i}}, [][]complex64{{1, 0}, {0, 1}}},
		{[][]complex64{{complex(1, 2)}}, [][]complex64{{5}}},
		// The conjugate is that of the second number.
		{[][]complex64{{1, i}}, [][]complex64{{1, complex(0, -1)}, {i, 1}}},
		{[][]complex64{{complex(1, 2), complex(3, -1)}}, [][]complex64{{5, complex(1, 7)}, {complex(1, -7), 10}}},
		{[][]complex64{{2, 0}, {0, i}}, [][]complex64{{2, 0}, {0, 0.5}}},
		{[][]complex64{{1, 2, 3}}, [][]complex64{{1, 2, 3}, {2, 4, 6}, {3, 6, 9}}},
		{powers(1, 2, 3, 4, 5), [][]complex64{{11}}},
		// Sums begin with +0, and so are never -0.
		{[][]complex64{{complex(minus, minus), -1}}, [][]complex64{{0, 0}, {0, 1}}},
		{[][]complex64{{complex(minus, minus)}, {complex(0, minus)}}, [][]complex64{{0}}},
		// The mean is a product, not a quotient: 9 / 5 has other bits.
		{powers(1, 2, 2, 0, 0), [][]complex64{{complex(bits32(0x3fe66667), 0)}}},
	}
	for _, c := range cases {
		isCovariance(t, c.shots, c.want)
	}
}

// Great numbers swallow small ones within a block, but not those of other blocks.
func TestBlocksAreSummedOnTheirOwn(t *testing.T) {
	const great = 4096 * 4096
	cases := []struct {
		shots [][]complex64
		sum   float32
	}{
		{powers(4096, 1, 1, 1), great},
		{powers(1, 1, 4096, 1), great + 4},
		{powers(4096, 1, 1, 1, 1), great},
		{powers(4096, 1, 1, 1, 1, 1), great + 2},
		{powers(4096, 1, 1, 1, 1, 1, 1), great + 4},
		{powers(4096, 1, 1, 1, 1, 1, 1, 1), great + 4},
		{powers(4096, 1, 1, 1, 1, 1, 1, 1, 1), great + 4},
		{powers(4096, 1, 1, 1, 1, 1, 1, 1, 1, 1), great + 6},
		{powers(1, 1, 1, 1, 4096), great + 4},
		{powers(1, 1, 1, 4096, 1), great + 4},
		{powers(4096, 0, 0, 0, 1, 0, 0, 0, 1, 0, 0, 0), great},
		{powers(1, 0, 0, 0, 1, 0, 0, 0, 4096, 0, 0, 0), great + 2},
		{powers(1, 0, 0, 0, 4096, 0, 0, 0, 1), great},
	}
	for _, c := range cases {
		by := 1 / float32(len(c.shots))
		isCovariance(t, c.shots, [][]complex64{{complex(c.sum*by, 0)}})
	}
}

// receivedShots returns shots of some elements, as they come from sources.
func receivedShots(seed int64, count, size int) [][]complex64 {
	shots, _ := impl.SnapshotsOf(onLine(size), someSources(3), 0.4, seed, 77*seed, int64(count))
	return shots
}

// Promise 7: covariances have the told bits for all numbers of shots, of their
// numbers and of workers, with full and other blocks.
func TestCovariancesToTheBit(t *testing.T) {
	for count := 1; count <= 64; count++ {
		for _, size := range []int{1, 2, 5, 8} {
			for _, shots := range [][][]complex64{drawnMatrix(uint32(count), count, size).Rows, receivedShots(int64(count), count, size)} {
				isCovariance(t, shots, covarianceTold(shots))
			}
		}
	}
	for size := 1; size <= 8; size++ {
		shots := drawnMatrix(uint32(size), 19, size).Rows
		isCovariance(t, shots, covarianceTold(shots))
	}
}

// Promise 7: this holds for any numbers, and for shots of zeros among others.
func TestCovariancesOfOddNumbers(t *testing.T) {
	odd := oddComplexes()
	for k := range odd {
		shots := drawnMatrix(uint32(k), 1+k%11, 3).Rows
		shots[k%len(shots)][k%3] = odd[k]
		isCovariance(t, shots, covarianceTold(shots))
		shots[k/2%len(shots)] = []complex64{odd[k*5%len(odd)], odd[k*7%len(odd)], odd[k]}
		isCovariance(t, shots, covarianceTold(shots))
	}
	zeros := []complex64{0, complex(minusZero(), 0), complex(0, minusZero()), complex(minusZero(), minusZero())}
	for k := range 64 {
		shots := drawnMatrix(uint32(k), 6, 3).Rows
		shots[k%6] = []complex64{zeros[k%4], zeros[k/4%4], zeros[k/16]}
		isCovariance(t, shots, covarianceTold(shots))
		shots[(k+1)%6] = []complex64{complex(nan32(), 0), complex(0, -inf32()), zeros[k%4]}
		isCovariance(t, shots, covarianceTold(shots))
		// A single number that is no zero is not silent, wherever it is.
		shots = [][]complex64{make([]complex64, 8), make([]complex64, 8)}
		shots[k/32][k%8] = complex(1, -2)
		isCovariance(t, shots, covarianceTold(shots))
	}
}

// opposite reports whether two numbers have opposite signs, or are zeros or
// not-a-numbers both.
func opposite(a, b float32) bool {
	return sameBits(a, -b) || a == 0 && b == 0
}

// isAdjoint fails the test unless a covariance is the conjugate of its transpose.
func isAdjoint(t *testing.T, shots [][]complex64) {
	t.Helper()
	m, ok := impl.CovarianceOf(shots)
	isEqual(t, "covariance taken", ok, true)
	for i, row := range m.Rows {
		for k, x := range row {
			y := m.Rows[k][i]
			if !sameBits(real(x), real(y)) || !opposite(imag(x), imag(y)) {
				t.Errorf("covariance of %v shots, the first one %v: %v and %v at %v, %v", len(shots), shots[0], x, y, i, k)
			}
		}
	}
}

// Promise 7: covariances are the conjugates of their transposes.
func TestCovariancesAreConjugatesOfTransposes(t *testing.T) {
	odd := oddComplexes()
	for count := 1; count <= 64; count++ {
		for _, size := range []int{1, 2, 3, 8} {
			for _, shots := range [][][]complex64{drawnMatrix(uint32(count), count, size).Rows, receivedShots(int64(count), count, size)} {
				isAdjoint(t, shots)
				m, _ := impl.CovarianceOf(shots)
				isEqual(t, fmt.Sprint("Hermitian ", m.Rows), impl.IsHermitian(m), true)
				shots[count/2][size-1] = odd[count*size*3%len(odd)]
				isAdjoint(t, shots)
			}
		}
	}
	tiny := complex64(complex(0, 1e-23))
	isAdjoint(t, [][]complex64{{tiny, 1e-22}, {0, 1}, {0, 0}})
}

// The diagonal has the mean powers, and so is not negative.
func TestDiagonalsAreMeanPowers(t *testing.T) {
	for count := 1; count <= 64; count++ {
		shots := receivedShots(int64(count), count, 6)
		m, _ := impl.CovarianceOf(shots)
		for k := range 6 {
			sum, _ := impl.PowersOf(columnAt(shots, k))
			isNear(t, "mean power", m.Rows[k][k]/complex(sum, 0), complex(1/float32(count), 0))
			isEqual(t, "no imaginary part", imag(m.Rows[k][k]), 0)
		}
	}
}

func TestCovarianceRefuses(t *testing.T) {
	wrong := wrongShots()
	for size := 9; size <= 17; size++ {
		wrong = append(wrong, onesShots(1, size), onesShots(64, size))
	}
	for _, shots := range wrong {
		got, ok := impl.CovarianceOf(shots)
		isMatrix(t, fmt.Sprint("covariance of ", shots), got, ok, nil)
		for workers := int64(1); workers <= 8; workers++ {
			got, ok := impl.CovarianceShared(shots, workers)
			isMatrix(t, fmt.Sprint("shared covariance of ", shots), got, ok, nil)
		}
	}
	for _, workers := range append(farIntegers(), -8, -1, 0, 9, 10, 64) {
		for _, count := range []int{1, 4, 64} {
			got, ok := impl.CovarianceShared(onesShots(count, 2), workers)
			isMatrix(t, fmt.Sprint("covariance by ", workers), got, ok, nil)
		}
	}
}

// Promise 7: calls at the same time do not disturb each other, and leave no
// goroutine behind.
func TestWorkersAreJoined(t *testing.T) {
	shots := receivedShots(3, 61, 8)
	want, before := covarianceTold(shots), runtime.NumGoroutine()
	done := make(chan impl.Matrix)
	for call := range int64(80) {
		go func() {
			m, _ := impl.CovarianceShared(shots, call%8+1)
			done <- m
		}()
	}
	for range 80 {
		isMatrix(t, "covariance at the same time", <-done, true, want)
	}
	for range 100000 {
		if runtime.NumGoroutine() <= before {
			return
		}
		runtime.Gosched()
	}
	t.Errorf("goroutines: %v before, %v behind", before, runtime.NumGoroutine())
}
