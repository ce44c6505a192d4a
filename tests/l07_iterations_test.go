package tests

import (
	"fmt"
	"math"
	"math/cmplx"
	"testing"

	"loop.example/g01181/impl"
)

// rootOfPowers returns the square root of the powers of a list, as RootNumber and
// PowersOf tell it.
func rootOfPowers(list []complex64) float32 {
	sum := 0.0
	for _, x := range list {
		re, im := float64(real(x)), float64(imag(x))
		sum += float64(re*re) + float64(im*im)
	}
	return float32(math.Sqrt(float64(float32(sum))))
}

// greatestTold returns the list of some rounds, and nil if one of them fails.
func greatestTold(m impl.Matrix, rounds int) ([]complex64, float32) {
	x := ones(len(m.Rows))
	for range rounds {
		var product []complex64
		for _, row := range m.Rows {
			product = append(product, dotOf(row, x))
		}
		by := 1 / rootOfPowers(product)
		if isNot(by) || by == 0 || by == inf32() {
			return nil, 0
		}
		for i, y := range product {
			x[i] = scaled(y, by)
		}
	}
	return x, formTold(m, x)
}

// deflatedTold returns rows without the part of a vector.
func deflatedTold(m impl.Matrix, x []complex64, value float32) [][]complex64 {
	var rows [][]complex64
	for i, row := range m.Rows {
		rows = append(rows, nil)
		for j, y := range row {
			part := impl.MulComplex(x[i], complex(real(x[j]), -imag(x[j])))
			rows[i] = append(rows[i], minus(y, scaled(part, value)))
		}
	}
	return rows
}

// vectorsTold returns some lists with their values, and nil if one of them fails.
func vectorsTold(m impl.Matrix, count, rounds int) ([][]complex64, []float32) {
	var vectors [][]complex64
	var values []float32
	for range count {
		x, value := greatestTold(m, rounds)
		if x == nil {
			return nil, nil
		}
		vectors, values = append(vectors, x), append(values, value)
		m = impl.Matrix{Rows: deflatedTold(m, x, value)}
	}
	return vectors, values
}

// isGreatest fails the test unless GreatestVector has succeeded with x and value, or
// has failed with nothing where x is nil.
func isGreatest(t *testing.T, m impl.Matrix, rounds int, x []complex64, value float32) {
	t.Helper()
	what := fmt.Sprint("greatest vector of ", m.Rows, rounds)
	got, form, ok := impl.GreatestVector(m, int64(rounds))
	isWeights(t, what, got, ok, x)
	isNumber(t, what+", value", form, value)
}

func TestGreatestVector(t *testing.T) {
	i, half := complex64(complex(0, 1)), complex64(0.5)
	cases := []struct {
		m      impl.Matrix
		rounds int
		x      []complex64
		value  float32
	}{
		{matrix([]complex64{4}), 1, []complex64{1}, 4},
		{matrix([]complex64{-4}), 1, []complex64{-1}, -4},
		{matrix([]complex64{-4}), 2, []complex64{1}, -4},
		{onesMatrix(4, 4), 1, []complex64{half, half, half, half}, 4},
		{onesMatrix(4, 4), 60, []complex64{half, half, half, half}, 4},
		{matrix([]complex64{0, 0}, []complex64{0, 9}), 1, []complex64{0, 1}, 9},
		{matrix([]complex64{0, i}, []complex64{0, 0}), 1, []complex64{i, 0}, 0},
		// The list is a product with the quotient, not a quotient itself: that would be 1.
		{matrix([]complex64{41}), 1, []complex64{complex(bits32(0x3f7fffff), 0)}, bits32(0x4223fffe)},
	}
	for _, c := range cases {
		isGreatest(t, c.m, c.rounds, c.x, c.value)
	}
}

// Each round turns the number of i by a quarter, so that their number shows.
func TestRoundsOfGreatestVector(t *testing.T) {
	quarters := []complex64{1, complex(0, 1), -1, complex(0, -1)}
	for rounds := 1; rounds <= 60; rounds++ {
		for _, by := range []float32{1, 2, 1024} {
			x, value, ok := impl.GreatestVector(matrix([]complex64{complex(0, by)}), int64(rounds))
			isEqual(t, fmt.Sprint("rounds ", rounds), ok && len(x) == 1 && x[0] == quarters[rounds%4], true)
			isEqual(t, fmt.Sprint("value ", rounds), value, 0)
		}
	}
	// The value is that of the last list, and not of the one before it.
	isGreatest(t, matrix([]complex64{2, 0}, []complex64{0, 0}), 1, []complex64{1, 0}, 2)
	isGreatest(t, matrix([]complex64{0, 0}, []complex64{2, 2}), 1, []complex64{0, 1}, 2)
}

// Vectors without a part have no quotient that is finite.
func TestVectorsWithoutAPart(t *testing.T) {
	i := complex64(complex(0, 1))
	for _, m := range []impl.Matrix{
		matrix([]complex64{0}), matrix([]complex64{complex(minusZero(), minusZero())}), matrix([]complex64{1, -1}, []complex64{-1, 1}),
		matrix([]complex64{i, -i}, []complex64{0, 0}),
		matrix([]complex64{1, 1, -2}, []complex64{1, -2, 1}, []complex64{-2, 1, 1}), onesWithout(8),
	} {
		for rounds := 1; rounds <= 60; rounds++ {
			isGreatest(t, m, rounds, nil, 0)
		}
	}
	// The part can be lost in a later round.
	isGreatest(t, matrix([]complex64{0, 1}, []complex64{0, 0}), 1, []complex64{1, 0}, 0)
	shift := matrix([]complex64{0, 1, 0}, []complex64{0, 0, 1}, []complex64{0, 0, 0})
	isEqual(t, "rounds before the last part is lost", isGreatestTaken(shift, 2), true)
	for rounds := 3; rounds <= 60; rounds++ {
		isGreatest(t, matrix([]complex64{0, 1}, []complex64{0, 0}), rounds-1, nil, 0)
		isGreatest(t, shift, rounds, nil, 0)
	}
}

// onesWithout returns a matrix, of some even number of rows, all rows of which have the sum 0.
func onesWithout(size int) impl.Matrix {
	m := onesMatrix(size, size)
	for i, row := range m.Rows {
		for j := range row {
			if (i+j)%2 == 1 {
				row[j] = -1
			}
		}
	}
	return m
}

// isGreatestTaken reports whether a matrix has a vector after some rounds.
func isGreatestTaken(m impl.Matrix, rounds int64) bool {
	_, _, ok := impl.GreatestVector(m, rounds)
	return ok
}

// The quotient is that of the narrowed power, so numbers can be too great and too
// small for it.
func TestQuotientsOfGreatestVectorHaveLimits(t *testing.T) {
	tiny, great := float32(math.Exp2(-75)), float32(math.Exp2(64))
	taken := []complex64{
		complex(tiny, tiny), complex(2*tiny, 0), complex(0, -2*tiny), complex(math.Nextafter32(great, 0), 0), complex(great/2, great/2),
		complex(1e-22, 0), complex(0, 1e19),
	}
	refused := []complex64{
		complex(tiny, 0), complex(0, -tiny), complex(1e-30, 1e-30), complex(great, 0), complex(0, -great), complex(1e30, 0), math.MaxFloat32,
		complex(inf32(), 0), complex(0, -inf32()), complex(nan32(), 0), complex(0, nan32()), complex(inf32(), nan32()),
	}
	for _, x := range taken {
		isEqual(t, fmt.Sprint("greatest vector of ", x), isGreatestTaken(matrix([]complex64{x}), 1), true)
		want, value := greatestTold(matrix([]complex64{x}), 3)
		isGreatest(t, matrix([]complex64{x}), 3, want, value)
	}
	for _, x := range refused {
		for _, rounds := range []int{1, 2, 60} {
			isGreatest(t, matrix([]complex64{x}), rounds, nil, 0)
			// A number that is not too small hides one that is, but not one that is too great.
			if long := longOf(x); !(long < 1) {
				isGreatest(t, matrix([]complex64{1, 0}, []complex64{0, x}), rounds, nil, 0)
			}
		}
	}
	isGreatest(t, matrix([]complex64{1, 0}, []complex64{0, 1e-30}), 1, []complex64{1, 1e-30}, 1)
}

// Values are any numbers, also where the list is finite.
func TestValuesOfGreatestVector(t *testing.T) {
	great := complex64(1.5e19)
	isGreatest(t, matrix([]complex64{great}), 1, []complex64{1}, 1.5e19)
	for _, m := range []impl.Matrix{
		matrix([]complex64{3e38, -3e38}, []complex64{0, 1}), matrix([]complex64{3e38, -3e38}, []complex64{3e38, -3e38}),
		matrix([]complex64{3e38, -3e38}, []complex64{-1, 0}),
	} {
		x, value := greatestTold(m, 1)
		isGreatest(t, m, 1, x, value)
	}
	_, value, ok := impl.GreatestVector(matrix([]complex64{3e38, -3e38, 1}, []complex64{0, 0, -1}, []complex64{3e38, -3e38, 2}), 1)
	isEqual(t, "great value", ok, true)
	isEqual(t, fmt.Sprint("great value ", value), value > 1e38, true)
}

// Promise 8: lists and values have the told bits, for all sizes and rounds.
func TestGreatestVectorsToTheBit(t *testing.T) {
	odd := oddComplexes()
	for size := 1; size <= 8; size++ {
		for seed := range uint32(60) {
			for _, rounds := range []int{1, 2, 3, 17, 59, 60} {
				m := drawnMatrix(seed, size, size)
				for _, m := range []impl.Matrix{
					m, covariance(seed, size), wholeMatrix(seed, size), withNumber(m, int(seed)%size, int(seed)/3%size, odd[int(seed)*size*5%len(odd)]),
				} {
					x, value := greatestTold(m, rounds)
					isGreatest(t, m, rounds, x, value)
				}
			}
		}
	}
}

// restOfVector returns the greatest length of what a matrix makes of a list, less
// the value times it, in 64-bit numbers.
func restOfVector(m impl.Matrix, x []complex64, value float32) float64 {
	most := 0.0
	for i, row := range m.Rows {
		sum := -complex(float64(value), 0) * complex128(x[i])
		for j, y := range row {
			sum += complex128(y) * complex128(x[j])
		}
		most = max(most, cmplx.Abs(sum))
	}
	return most
}

// Values do not fall as rounds come, are at most the sum of the diagonal, and those
// of matrices with one strong vector belong to it.
func TestValuesAreNearlyEigenvalues(t *testing.T) {
	for size := 1; size <= 8; size++ {
		for seed := range uint32(40) {
			m := covariance(seed, size)
			trace, before := 0.0, float32(0)
			for k := range size {
				trace += float64(real(m.Rows[k][k]))
			}
			for rounds := int64(1); rounds <= 60; rounds++ {
				x, value, ok := impl.GreatestVector(m, rounds)
				power, _ := impl.PowersOf(x)
				if !ok || !(value >= before*0.99999) || float64(value) > trace*1.00001 || math.Abs(float64(power)-1) > 1e-6 {
					t.Fatalf("matrix %v, %v rounds: vector %v, value %v, before %v", m.Rows, rounds, x, value, before)
				}
				before = value
			}
			strong, _ := impl.CovarianceOf(receivedAlone(int64(seed), size))
			x, value, ok := impl.GreatestVector(strong, 60)
			rest := restOfVector(strong, x, value)
			isEqual(t, fmt.Sprint("rest of a strong vector ", rest), ok && rest < 1e-5*float64(value), true)
		}
	}
}

// receivedAlone returns shots of some elements that come from one source with little
// noise.
func receivedAlone(seed int64, size int) [][]complex64 {
	source := impl.Source{From: impl.Direction{U: 7 * seed % 64, V: 11}, Gain: 3, Seed: seed}
	shots, _ := impl.SnapshotsOf(onLine(size), []impl.Source{source}, 0.1, seed+1, 0, 20)
	return shots
}

// wrongRounds returns numbers that are no rounds.
func wrongRounds() []int64 {
	return append(farIntegers(), -60, -1, 0, 61, 62, 100, 1000)
}

func TestGreatestVectorRefuses(t *testing.T) {
	for _, rounds := range wrongRounds() {
		for size := 1; size <= 8; size++ {
			x, value, ok := impl.GreatestVector(onesMatrix(size, size), rounds)
			isWeights(t, fmt.Sprint("greatest vector of ", rounds), x, ok, nil)
			isNumber(t, "no value", value, 0)
		}
	}
	for _, m := range notSquare() {
		for _, rounds := range []int{1, 2, 60} {
			isGreatest(t, m, rounds, nil, 0)
		}
	}
}

func TestDeflateMatrix(t *testing.T) {
	i, minus := complex64(complex(0, 1)), minusZero()
	cases := []struct {
		m     impl.Matrix
		x     []complex64
		value float32
		want  [][]complex64
	}{
		{matrix([]complex64{3, 0}, []complex64{0, 1}), []complex64{1, 0}, 3, [][]complex64{{0, 0}, {0, 1}}},
		{onesMatrix(2, 2), []complex64{0.5, 0.5}, 4, [][]complex64{{0, 0}, {0, 0}}},
		// The conjugate is that of the number of the column.
		{onesMatrix(2, 2), []complex64{1, i}, 1, [][]complex64{{0, complex(1, 1)}, {complex(1, -1), 0}}},
		{onesMatrix(2, 2), []complex64{1, i}, -2, [][]complex64{{3, complex(1, -2)}, {complex(1, 2), 3}}},
		{matrix([]complex64{complex(1, 5)}), []complex64{complex(1, 2)}, 0.5, [][]complex64{{complex(-1.5, 5)}}},
		{matrix([]complex64{complex(minus, minus)}), []complex64{0}, 1, [][]complex64{{complex(minus, minus)}}},
		{matrix([]complex64{complex(minus, minus)}), []complex64{0}, minus, [][]complex64{{0}}},
		// The product is narrowed before it is multiplied by the value.
		{matrix([]complex64{0}), []complex64{1e-30}, 1e38, [][]complex64{{0}}},
		{matrix([]complex64{0}), []complex64{1e20}, 1e-38, [][]complex64{{complex(-inf32(), 0)}}},
		{matrix([]complex64{1}), []complex64{1}, nan32(), [][]complex64{{complex(nan32(), nan32())}}},
		{matrix([]complex64{1}), []complex64{1}, inf32(), [][]complex64{{complex(-inf32(), nan32())}}},
	}
	for _, c := range cases {
		got, ok := impl.DeflateMatrix(c.m, c.x, c.value)
		isMatrix(t, fmt.Sprint("deflated ", c.m.Rows, c.x, c.value), got, ok, c.want)
	}
	odd := oddComplexes()
	for size := 1; size <= 8; size++ {
		for seed := range uint32(64) {
			m, x := drawnMatrix(seed, size, size), drawn(seed+9, size)
			for _, value := range []float32{3.3, -0.7, 0, oddNumbers()[seed%16]} {
				got, ok := impl.DeflateMatrix(m, x, value)
				isMatrix(t, fmt.Sprint("deflated ", m.Rows, x, value), got, ok, deflatedTold(m, x, value))
			}
			m = withNumber(m, int(seed)%size, int(seed/8)%size, odd[int(seed)*7%len(odd)])
			x[int(seed)%size] = odd[int(seed)*size*11%len(odd)]
			got, ok := impl.DeflateMatrix(m, x, 1.7)
			isMatrix(t, fmt.Sprint("deflated ", m.Rows, x), got, ok, deflatedTold(m, x, 1.7))
		}
	}
}

func TestDeflateMatrixRefuses(t *testing.T) {
	for _, m := range notSquare() {
		for count := range 10 {
			got, ok := impl.DeflateMatrix(m, ones(count), 1)
			isMatrix(t, fmt.Sprint("deflated ", m.Rows), got, ok, nil)
		}
	}
	for size := 1; size <= 8; size++ {
		for count := range 20 {
			got, ok := impl.DeflateMatrix(onesMatrix(size, size), ones(count), 1)
			isEqual(t, fmt.Sprint("deflated ", size, count), ok, size == count)
			isEqual(t, "rows of it", len(got.Rows) == size, ok)
		}
	}
}

// areVectors fails the test unless VectorsOf has succeeded with lists and values, or
// has failed with none where vectors is nil.
func areVectors(t *testing.T, m impl.Matrix, count, rounds int64, vectors [][]complex64, values []float32) {
	t.Helper()
	what := fmt.Sprint("vectors of ", m.Rows, count, rounds)
	got, numbers, ok := impl.VectorsOf(m, count, rounds)
	isMatrix(t, what, impl.Matrix{Rows: got}, ok, vectors)
	isPowers(t, what+", values", numbers, ok, values)
}

func TestVectorsOf(t *testing.T) {
	areVectors(t, matrix([]complex64{4}), 1, 2, [][]complex64{{1}}, []float32{4})
	areVectors(t, onesMatrix(4, 4), 1, 5, [][]complex64{{0.5, 0.5, 0.5, 0.5}}, []float32{4})
	// Nothing is left of a matrix of one vector.
	for count := int64(2); count <= 4; count++ {
		areVectors(t, onesMatrix(4, 4), count, 5, nil, nil)
	}
	areVectors(t, matrix([]complex64{0, 0}, []complex64{0, 4}), 1, 1, [][]complex64{{0, 1}}, []float32{4})
	areVectors(t, matrix([]complex64{0, 0}, []complex64{0, 4}), 2, 1, nil, nil)
	areVectors(t, matrix([]complex64{0}), 1, 1, nil, nil)
	odd := oddComplexes()
	for size := 1; size <= 8; size++ {
		for seed := range uint32(20) {
			for _, rounds := range []int{1, 2, 60} {
				m := drawnMatrix(seed, size, size)
				for _, m := range []impl.Matrix{
					m, covariance(seed, size), wholeMatrix(seed, size), withNumber(m, int(seed)%size, int(seed)/3%size, odd[int(seed)*size*5%len(odd)]),
				} {
					for _, count := range []int{1, (size + 1) / 2, size} {
						vectors, values := vectorsTold(m, count, rounds)
						areVectors(t, m, int64(count), int64(rounds), vectors, values)
					}
				}
			}
		}
	}
}

// A diagonal has its numbers as values, from the greatest one on, and the vectors are
// across one another.
func TestVectorsOfADiagonal(t *testing.T) {
	for size := 2; size <= 8; size++ {
		m := impl.Matrix{}
		for k := range size {
			row := make([]complex64, size)
			row[k] = complex(float32(math.Exp2(float64((k+2)%size*2))), 0)
			m.Rows = append(m.Rows, row)
		}
		vectors, values, ok := impl.VectorsOf(m, int64(size), 60)
		isEqual(t, fmt.Sprint("vectors taken ", size), ok && len(vectors) == size && len(values) == size, true)
		for k, value := range values {
			isNear(t, "value of a diagonal", complex(value/float32(math.Exp2(float64(2*(size-1-k)))), 0), 1)
			for j, other := range vectors[:k+1] {
				want := complex64(0)
				if j == k {
					want = 1
				}
				isNear(t, "vectors across one another", dotTold(other, vectors[k]), want)
			}
		}
	}
}

func TestVectorsOfRefuses(t *testing.T) {
	for size := 1; size <= 8; size++ {
		m := covariance(uint32(size), size)
		for _, count := range append(farIntegers(), -8, -1, 0, 1, 2, 3, 4, 5, 6, 7, 8, 9, 10, 60) {
			vectors, values, ok := impl.VectorsOf(m, count, 60)
			isEqual(t, fmt.Sprint("vectors ", size, count), ok, count >= 1 && count <= int64(size))
			isEqual(t, "lists", len(vectors), len(values))
			isEqual(t, "lists of a call", len(vectors) > 0, ok)
		}
		for _, rounds := range wrongRounds() {
			areVectors(t, m, 1, rounds, nil, nil)
			areVectors(t, m, int64(size), rounds, nil, nil)
		}
	}
	for _, m := range notSquare() {
		for count := int64(0); count <= 9; count++ {
			areVectors(t, m, count, 1, nil, nil)
		}
	}
}
