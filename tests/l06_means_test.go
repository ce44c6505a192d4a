package tests

import (
	"fmt"
	"testing"

	"loop.example/g01181/impl"
)

// notSquare returns wrong matrices, and those with more rows or columns.
func notSquare() []impl.Matrix {
	return append(wrongMatrices(), onesMatrix(1, 2), onesMatrix(2, 1), onesMatrix(8, 7), onesMatrix(7, 8), onesMatrix(1, 8))
}

// bothTold returns both ways of a matrix as the document tells them.
func bothTold(m impl.Matrix) [][]complex64 {
	n := len(m.Rows)
	rows := make([][]complex64, n)
	for i := range n {
		for k := range n {
			sum := plus(m.Rows[i][k], impl.ConjugateOf(m.Rows[n-1-i][n-1-k]))
			rows[i] = append(rows[i], scaled(sum, 0.5))
		}
	}
	return rows
}

func TestBothWays(t *testing.T) {
	i, minus := complex64(complex(0, 1)), minusZero()
	cases := []struct {
		m    impl.Matrix
		want [][]complex64
	}{
		{matrix([]complex64{complex(3, 4)}), [][]complex64{{3}}},
		{matrix([]complex64{2, i}, []complex64{-i, 4}), [][]complex64{{3, i}, {complex(0, -1), 3}}},
		{matrix([]complex64{1, complex(0, 8)}, []complex64{complex(2, 2), complex(5, 6)}),
			[][]complex64{{complex(3, -3), complex(1, 3)}, {complex(1, -3), complex(3, 3)}}},
		{matrix([]complex64{1, 2, 3}, []complex64{4, 5 * i, 6}, []complex64{7, 8, 9}), [][]complex64{{5, 5, 5}, {5, 0, 5}, {5, 5, 5}}},
		{matrix([]complex64{complex(minus, minus)}), [][]complex64{{complex(minus, 0)}}},
		{matrix([]complex64{complex(minus, minus), 0}, []complex64{0, complex(minus, 0)}),
			[][]complex64{{complex(minus, minus), 0}, {0, complex(minus, 0)}}},
		// The sum is rounded before it is multiplied, and can be an infinity.
		{matrix([]complex64{3e38}), [][]complex64{{complex(inf32(), 0)}}},
		{matrix([]complex64{complex(0, inf32())}), [][]complex64{{complex(0, nan32())}}},
	}
	for _, c := range cases {
		got, ok := impl.BothWays(c.m)
		isMatrix(t, fmt.Sprint("both ways of ", c.m.Rows), got, ok, c.want)
	}
	odd := oddComplexes()
	for size := 1; size <= 8; size++ {
		for seed := range uint32(64) {
			m := drawnMatrix(seed, size, size)
			m = withNumber(m, int(seed)%size, int(seed/8)%size, odd[int(seed)*size*5%len(odd)])
			got, ok := impl.BothWays(m)
			isMatrix(t, fmt.Sprint("both ways of ", m.Rows), got, ok, bothTold(m))
		}
	}
}

// Both ways of a covariance are Hermitian, and the same from the other end.
func TestBothWaysAreHermitian(t *testing.T) {
	for count := 1; count <= 64; count++ {
		size := count%8 + 1
		m, _ := impl.CovarianceOf(receivedShots(int64(count), count, size))
		both, ok := impl.BothWays(m)
		isEqual(t, fmt.Sprint("Hermitian ", both.Rows), ok && impl.IsHermitian(both), true)
		again, ok := impl.BothWays(both)
		for i, row := range again.Rows {
			for k, x := range row {
				isEqual(t, "both ways again", ok && x == both.Rows[i][k], true)
			}
		}
	}
}

func TestBothWaysRefuses(t *testing.T) {
	for _, m := range notSquare() {
		got, ok := impl.BothWays(m)
		isMatrix(t, fmt.Sprint("both ways of ", m.Rows), got, ok, nil)
	}
}

// smoothTold returns the mean of smaller matrices as the document tells it.
func smoothTold(m impl.Matrix, size int) [][]complex64 {
	n := len(m.Rows)
	by, rows := 1/float32(n-size+1), make([][]complex64, size)
	for i := range size {
		for k := range size {
			var sum complex64
			for j := 0; j <= n-size; j++ {
				sum = plus(sum, m.Rows[i+j][k+j])
			}
			rows[i] = append(rows[i], scaled(sum, by))
		}
	}
	return rows
}

func TestSmoothMatrix(t *testing.T) {
	i, minus := complex64(complex(0, 1)), minusZero()
	three := matrix([]complex64{1, 2, 3}, []complex64{4 * i, 5, 6}, []complex64{7, 8 * i, 9})
	cases := []struct {
		m    impl.Matrix
		want [][]complex64
	}{
		{matrix([]complex64{2, i}, []complex64{-i, 4}), [][]complex64{{3}}},
		{three, three.Rows},
		{three, [][]complex64{{3, 4}, {6 * i, 7}}},
		{three, [][]complex64{{5}}},
		// The mean is a product, not a quotient: 5 / 3 has other bits.
		{matrix([]complex64{1, 0, 0}, []complex64{0, 1, 0}, []complex64{0, 0, 3}), [][]complex64{{complex(bits32(0x3fd55556), 0)}}},
		// Sums begin with +0 + 0 i, also those of one number.
		{matrix([]complex64{complex(minus, minus)}), [][]complex64{{0}}},
		// Sums go from the first row on.
		{matrix([]complex64{1e8, 0, 0}, []complex64{0, 1, 0}, []complex64{0, 0, -1e8}), [][]complex64{{0}}},
		{matrix([]complex64{1e8, 0, 0, 0}, []complex64{0, -1e8, 0, 0}, []complex64{0, 0, 4, 0}, []complex64{0, 0, 0, 4}), [][]complex64{{2}}},
		{matrix([]complex64{3e38, 0}, []complex64{0, 3e38}), [][]complex64{{complex(inf32(), 0)}}},
	}
	for _, c := range cases {
		got, ok := impl.SmoothMatrix(c.m, int64(len(c.want)))
		isMatrix(t, fmt.Sprint("smooth of ", c.m.Rows, len(c.want)), got, ok, c.want)
	}
	odd := oddComplexes()
	for n := 1; n <= 8; n++ {
		for size := 1; size <= n; size++ {
			for seed := range uint32(24) {
				m := drawnMatrix(seed, n, n)
				m = withNumber(m, int(seed)%n, int(seed*3)%n, odd[int(seed)*size*7%len(odd)])
				got, ok := impl.SmoothMatrix(m, int64(size))
				isMatrix(t, fmt.Sprint("smooth of ", m.Rows, size), got, ok, smoothTold(m, size))
			}
		}
	}
}

func TestSmoothMatrixRefuses(t *testing.T) {
	for n := 1; n <= 8; n++ {
		for _, size := range append(farIntegers(), -8, -1, 0, int64(n)+1, int64(n)+2, 9, 100) {
			got, ok := impl.SmoothMatrix(onesMatrix(n, n), size)
			isMatrix(t, fmt.Sprint("smooth ", n, size), got, ok, nil)
		}
	}
	for _, m := range notSquare() {
		for size := int64(0); size <= 9; size++ {
			got, ok := impl.SmoothMatrix(m, size)
			isMatrix(t, fmt.Sprint("smooth of ", m.Rows), got, ok, nil)
		}
	}
}

func TestBeamOfShots(t *testing.T) {
	i := complex64(complex(0, 1))
	cases := []struct {
		weights []complex64
		shots   [][]complex64
		want    []complex64
	}{
		{[]complex64{1, i}, [][]complex64{{1, i}, {1, -i}}, []complex64{2, 0}},
		// The conjugates are those of the weights.
		{[]complex64{i}, powers(1, i, complex(2, 3)), []complex64{complex(0, -1), 1, complex(3, -2)}},
		{[]complex64{complex(1, 2)}, powers(complex(3, -1)), []complex64{complex(1, -7)}},
		{[]complex64{1, 1, 1}, [][]complex64{{1e8, 1, -1e8}, {1e8, -1e8, 1}}, []complex64{0, 1}},
		{[]complex64{0}, powers(5), []complex64{0}},
		{[]complex64{complex(nan32(), 0)}, powers(0), []complex64{complex(nan32(), nan32())}},
	}
	for _, c := range cases {
		got, ok := impl.BeamOfShots(c.weights, c.shots)
		isWeights(t, fmt.Sprint("beam ", c.weights, c.shots), got, ok, c.want)
	}
	odd := oddComplexes()
	for size := 1; size <= 16; size++ {
		for _, count := range []int{1, 2, 3, 4, 5, 63, 64} {
			weights, shots := drawn(uint32(size), size), drawnMatrix(uint32(count), count, size).Rows
			shots[count/2][size/2] = odd[count*size*3%len(odd)]
			weights[size/3] = odd[count*size*11%len(odd)]
			var want, conjugates []complex64
			for _, x := range weights {
				conjugates = append(conjugates, impl.ConjugateOf(x))
			}
			for _, shot := range shots {
				want = append(want, dotOf(conjugates, shot))
			}
			got, ok := impl.BeamOfShots(weights, shots)
			isWeights(t, fmt.Sprint("beam ", weights, shots), got, ok, want)
		}
	}
}

func TestBeamOfShotsRefuses(t *testing.T) {
	for _, shots := range wrongShots() {
		for _, count := range []int{0, 1, 2, 3, 16, 17} {
			got, ok := impl.BeamOfShots(ones(count), shots)
			isWeights(t, fmt.Sprint("beam of ", shots), got, ok, nil)
		}
	}
	for size := 1; size <= 16; size++ {
		for count := range 20 {
			got, ok := impl.BeamOfShots(ones(count), onesShots(3, size))
			isEqual(t, fmt.Sprint("beam ", size, count), ok, count == size)
			isEqual(t, "numbers of the beam", len(got) == 3, ok)
		}
	}
}
