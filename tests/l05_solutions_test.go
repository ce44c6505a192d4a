package tests

import (
	"fmt"
	"math"
	"slices"
	"testing"

	"loop.example/g01181/impl"
)

// solved is what an elimination has come to: its pivots, the number of changes of
// places, and the solution.
type solved struct {
	pivots, x []complex64
	changes   int
	ok        bool
}

// solve is the told elimination, with a list of its own for the numbers of b.
func solve(m impl.Matrix, b []complex64) solved {
	size, s := len(m.Rows), solved{x: make([]complex64, len(b))}
	rows, left := make([][]complex64, size), slices.Clone(b)
	for i := range rows {
		rows[i] = slices.Clone(m.Rows[i])
	}
	for k := range size {
		best := k
		for i := k; i < size; i++ {
			power := impl.PowerOf(rows[i][k])
			if power > impl.PowerOf(rows[best][k]) || isNot(impl.PowerOf(rows[best][k])) {
				best = i
			}
		}
		if best != k {
			rows[best], rows[k], left[best], left[k] = rows[k], rows[best], left[k], left[best]
			s.changes++
		}
		pivot := rows[k][k]
		if power := impl.PowerOf(pivot); isNot(power) || power == 0 || power == inf32() {
			return solved{}
		}
		s.pivots = append(s.pivots, pivot)
		for i := k + 1; i < size; i++ {
			f := impl.QuotientOf(rows[i][k], pivot)
			for j := k + 1; j < size; j++ {
				rows[i][j] = minus(rows[i][j], impl.MulComplex(f, rows[k][j]))
			}
			left[i] = minus(left[i], impl.MulComplex(f, left[k]))
		}
	}
	for k := size - 1; k >= 0; k-- {
		s.x[k] = impl.QuotientOf(minus(left[k], dotOf(rows[k][k+1:], s.x[k+1:])), s.pivots[k])
	}
	s.ok = true
	return s
}

// isSolved fails the test unless equations have the told solution.
func isSolved(t *testing.T, m impl.Matrix, b []complex64) {
	t.Helper()
	s := solve(m, b)
	want := s.x
	if !s.ok {
		want = nil
	}
	got, ok := impl.SolveEquations(m, b)
	isWeights(t, fmt.Sprint("solution of ", m.Rows, b), got, ok, want)
}

func TestSolveEquations(t *testing.T) {
	i, minus, none := complex64(complex(0, 1)), minusZero(), nan32()
	cases := []struct {
		m       impl.Matrix
		b, want []complex64
	}{
		{matrix([]complex64{2}), []complex64{4 * i}, []complex64{2 * i}},
		{matrix([]complex64{i}), []complex64{3}, []complex64{complex(0, -3)}},
		{matrix([]complex64{1, 2}, []complex64{3, 4}), []complex64{5, 11}, []complex64{1, 2}},
		{matrix([]complex64{1, i}, []complex64{-i, 2}), []complex64{0, 3}, []complex64{complex(0, -3), 3}},
		// Rows change places with their numbers of b where a pivot is zero.
		{matrix([]complex64{0, 1}, []complex64{1, 0}), []complex64{5, 6}, []complex64{6, 5}},
		{matrix([]complex64{0, 2}, []complex64{i, 0}), []complex64{4, 3}, []complex64{complex(0, -3), 2}},
		{matrix([]complex64{0, 0, 1}, []complex64{1, 0, 0}, []complex64{0, 1, 0}), []complex64{7, 8, 9}, []complex64{8, 9, 7}},
		{matrix([]complex64{1, 1, 0}, []complex64{1, 1, 1}, []complex64{0, 1, 1}), []complex64{3, 6, 5}, []complex64{1, 2, 3}},
		// Signs of zeros are those of the quotients.
		{matrix([]complex64{1}), []complex64{complex(minus, minus)}, []complex64{complex(minus, 0)}},
		{matrix([]complex64{-1}), []complex64{complex(0, minus)}, []complex64{complex(minus, 0)}},
		{matrix([]complex64{complex(1, minus)}), []complex64{complex(minus, minus)}, []complex64{complex(0, minus)}},
		// Also products with a factor of zero are taken away.
		{matrix([]complex64{1, 0}, []complex64{0, 1}), []complex64{-1, complex(minus, minus)}, []complex64{-1, complex(0, minus)}},
		{matrix([]complex64{1, complex(none, 0)}, []complex64{0, 1}), ones(2), nil},
		{matrix([]complex64{1, complex(0, inf32())}, []complex64{0, 1}), ones(2), nil},
		// What is known is added from left to right before it is taken away.
		{matrix([]complex64{1, 1, 1}, []complex64{0, 1, 0}, []complex64{0, 0, 1}), []complex64{1, 1e8, -1e8}, []complex64{1, 1e8, -1e8}},
		{matrix([]complex64{1, 1, 1, 1}, []complex64{0, 1, 0, 0}, []complex64{0, 0, 1, 0}, []complex64{0, 0, 0, 1}),
			[]complex64{0, 1e8, -1e8, 1}, []complex64{-1, 1e8, -1e8, 1}},
		// Numbers of b can be any ones.
		{matrix([]complex64{2}), []complex64{complex(inf32(), 0)}, []complex64{complex(inf32(), none)}},
		{matrix([]complex64{2}), []complex64{complex(0, none)}, []complex64{complex(none, none)}},
		{matrix([]complex64{1, 0}, []complex64{0, 1}), []complex64{1, complex(none, 0)}, []complex64{complex(none, none), complex(none, none)}},
	}
	for _, c := range cases {
		got, ok := impl.SolveEquations(c.m, c.b)
		isWeights(t, fmt.Sprint("solution of ", c.m.Rows, c.b), got, ok, c.want)
	}
}

// pivotsAtLimits returns numbers whose narrowed powers are just finite or just not
// 0, and others whose powers are not.
func pivotsAtLimits() ([]complex64, []complex64) {
	tiny, great := float32(math.Exp2(-75)), float32(math.Exp2(63))
	below := math.Nextafter32(2*great, 0)
	taken := []complex64{
		complex(tiny, tiny), complex(2*tiny, 0), complex(0, -2*tiny), complex(great, great), complex(below, 0), complex(0, -below),
	}
	refused := []complex64{
		complex(tiny, 0), complex(0, -tiny), 0, complex(minusZero(), minusZero()), complex(2*great, 0), complex(0, -2*great),
		complex(below, below), complex(inf32(), 0), complex(0, -inf32()), complex(nan32(), 0), complex(0, nan32()),
		complex(inf32(), nan32()), complex(1e-30, 1e-30), complex(1e30, 0),
	}
	return taken, refused
}

// The power of a pivot is narrowed, and must be greater than 0 and finite.
func TestPivotsHaveLimits(t *testing.T) {
	taken, refused := pivotsAtLimits()
	for _, x := range taken {
		got, ok := impl.SolveEquations(matrix([]complex64{x}), []complex64{x})
		isEqual(t, fmt.Sprint("pivot ", x), ok && len(got) == 1 && got[0] == 1, true)
		got, ok = impl.SolveEquations(matrix([]complex64{0, 3}, []complex64{x, 0}), []complex64{6, x})
		isEqual(t, fmt.Sprint("pivot ", x), ok && len(got) == 2 && got[0] == 1 && got[1] == 2, true)
	}
	for _, x := range refused {
		for _, m := range []impl.Matrix{
			matrix([]complex64{x}), matrix([]complex64{x, 1}, []complex64{0, 1}), matrix([]complex64{1, 0}, []complex64{0, x}),
			matrix([]complex64{0, 1}, []complex64{x, 1}), matrix([]complex64{0, x}, []complex64{1, 0}),
			matrix([]complex64{1, 0, 0}, []complex64{0, x, 0}, []complex64{0, 0, 1}),
		} {
			got, ok := impl.SolveEquations(m, ones(len(m.Rows)))
			isWeights(t, fmt.Sprint("solution of ", m.Rows), got, ok, nil)
			product, ok := impl.DeterminantOf(m)
			isSum(t, fmt.Sprint("determinant of ", m.Rows), product, ok, 0)
			inverse, ok := impl.InverseMatrix(m)
			isMatrix(t, fmt.Sprint("inverse of ", m.Rows), inverse, ok, nil)
		}
	}
}

// A greater number that cannot be a pivot is not passed over for a less one, and
// not-a-numbers anywhere leave no solution.
func TestNumbersThatAreNotFiniteHaveNoSolution(t *testing.T) {
	for _, x := range []complex64{complex(nan32(), 0), complex(1, nan32()), complex(inf32(), 0), complex(0, -inf32()), complex(inf32(), nan32())} {
		for size := 2; size <= 5; size++ {
			for i := range size {
				for j := range size {
					m := withNumber(drawnMatrix(uint32(size), size, size), i, j, x)
					got, ok := impl.SolveEquations(m, ones(size))
					isWeights(t, fmt.Sprint("solution of ", m.Rows), got, ok, nil)
					product, ok := impl.DeterminantOf(m)
					isSum(t, fmt.Sprint("determinant of ", m.Rows), product, ok, 0)
				}
			}
		}
	}
	for _, x := range []complex64{complex(math.MaxFloat32, 0), complex(0, 1e30)} {
		got, ok := impl.SolveEquations(matrix([]complex64{1, 0}, []complex64{x, 1}), ones(2))
		isWeights(t, "too great number behind another", got, ok, nil)
	}
}

// Equations without a solution, and those with several ones, are refused.
func TestSingularMatrices(t *testing.T) {
	i := complex64(complex(0, 1))
	cases := []impl.Matrix{
		matrix([]complex64{0}), matrix([]complex64{1, 1}, []complex64{1, 1}), matrix([]complex64{1, 2}, []complex64{2, 4}),
		matrix([]complex64{0, 1}, []complex64{0, 2}), matrix([]complex64{0, 0}, []complex64{1, 2}), matrix([]complex64{0, 0}, []complex64{0, 1}),
		matrix([]complex64{1, i}, []complex64{-i, 1}), matrix([]complex64{1, 2, 3}, []complex64{0, 1, 1}, []complex64{1, 3, 4}),
		onesMatrix(8, 8), withNumber(onesMatrix(3, 3), 0, 0, 2),
	}
	for _, m := range cases {
		size := len(m.Rows)
		got, ok := impl.SolveEquations(m, make([]complex64, size))
		isWeights(t, fmt.Sprint("solution of ", m.Rows), got, ok, nil)
		product, ok := impl.DeterminantOf(m)
		isSum(t, fmt.Sprint("determinant of ", m.Rows), product, ok, 0)
		inverse, ok := impl.InverseMatrix(m)
		isMatrix(t, fmt.Sprint("inverse of ", m.Rows), inverse, ok, nil)
	}
}

// whole returns drawn numbers with parts from -2 to 2 that are whole, so that many
// of them are zeros or have equal powers.
func whole(seed uint32, count int) []complex64 {
	list := drawn(seed, count)
	for k, x := range list {
		list[k] = complex(float32(math.Round(float64(2*real(x)))), float32(math.Round(float64(2*imag(x)))))
	}
	return list
}

// wholeMatrix returns a square matrix of whole numbers.
func wholeMatrix(seed uint32, size int) impl.Matrix {
	m, numbers := impl.Matrix{}, whole(seed, size*size)
	for i := range size {
		m.Rows = append(m.Rows, numbers[i*size:(i+1)*size])
	}
	return m
}

// Promise 6: solutions have the told bits, in all sizes.
func TestSolutionsToTheBit(t *testing.T) {
	odd := oddComplexes()
	for size := 1; size <= 8; size++ {
		for seed := range uint32(200) {
			m, b := drawnMatrix(seed, size, size), drawn(seed+1000, size)
			isSolved(t, m, b)
			isSolved(t, wholeMatrix(seed, size), whole(seed+1000, size))
			x, at := odd[int(seed*67)%len(odd)], int(seed)%size
			isSolved(t, withNumber(m, at, (at+int(seed)/7)%size, x), b)
			b[at] = x
			isSolved(t, m, b)
		}
	}
}

// Of numbers with equal powers, the first one is the pivot, also where only the
// narrowed powers are equal.
func TestPivotsOfEqualPowers(t *testing.T) {
	i := complex64(complex(0, 1))
	equal := [][2]complex64{
		{4096, complex(4096, 1)}, {complex(4096, 1), 4096}, {5, complex(3, 4)}, {complex(3, 4), 5}, {complex(-4, 3), complex(3, -4)},
		{1, -1}, {1, i}, {-i, 1}, {complex(1, 7), 5 + 5*i}, {complex(16, 63), complex(33, 56)},
	}
	for _, pair := range equal {
		for _, behind := range []complex64{1, complex(0.1, 0.7), complex(-3, 0.3)} {
			m := matrix([]complex64{pair[0], behind}, []complex64{pair[1], 0.9})
			isSolved(t, m, []complex64{complex(0.3, 0.1), 0.7})
			isEqual(t, "changes of places", solve(m, ones(2)).changes, 0)
			three := matrix([]complex64{0.5, behind, 3}, []complex64{pair[0], 2, behind}, []complex64{pair[1], 0.3, 1})
			isSolved(t, three, []complex64{complex(0.3, 0.1), 0.7, i})
			if s := solve(three, ones(3)); s.pivots[0] != pair[0] {
				t.Errorf("pivot %v, want %v", s.pivots[0], pair[0])
			}
		}
	}
	product, ok := impl.DeterminantOf(matrix([]complex64{4096, 1}, []complex64{complex(4096, 1), 1}))
	isSum(t, "determinant of equal powers", product, ok, complex(0, -1))
}

func TestSolveEquationsRefuses(t *testing.T) {
	for _, m := range wrongMatrices() {
		for _, count := range []int{0, 1, 2, 3, 8, 9, 100} {
			got, ok := impl.SolveEquations(m, ones(count))
			isWeights(t, fmt.Sprint("solution of ", m.Rows), got, ok, nil)
		}
	}
	eachSize(func(rows, columns int) {
		m := drawnMatrix(77, rows, columns)
		for count := range 12 {
			got, ok := impl.SolveEquations(m, ones(count))
			isEqual(t, fmt.Sprint("solution of ", rows, columns, count), ok, rows == columns && count == rows)
			isEqual(t, "numbers of the solution", ok, len(got) > 0)
		}
	})
}

// longOf returns the length of a complex number.
func longOf(x complex64) float64 {
	return math.Hypot(float64(real(x)), float64(imag(x)))
}

// longest returns the greatest length of some numbers, and 1 at least.
func longest(list []complex64) float64 {
	most := 1.0
	for _, x := range list {
		most = max(most, longOf(x))
	}
	return most
}

// Promise 6: solutions leave nearly nothing.
func TestSolutionsLeaveNearlyNothing(t *testing.T) {
	for size := 1; size <= 8; size++ {
		for seed := range uint32(200) {
			m, b := drawnMatrix(seed, size, size), drawn(seed+5, size)
			x, ok := impl.SolveEquations(m, b)
			isEqual(t, "solved", ok, true)
			for i, row := range m.Rows {
				var sum complex128
				for j, y := range row {
					sum += complex128(y) * complex128(x[j])
				}
				if rest := longOf(complex64(sum - complex128(b[i]))); !(rest <= 1e-5*longest(x)) {
					t.Errorf("equations %v, %v: solution %v leaves %v", m.Rows, b, x, rest)
				}
			}
			_, greatest, ok := impl.RestOf(m, x, b)
			isEqual(t, "rest taken", ok, true)
			isEqual(t, fmt.Sprint("small rest ", greatest), float64(greatest) <= 1e-5*longest(x), true)
		}
	}
}

func TestDeterminantOf(t *testing.T) {
	i, minus := complex64(complex(0, 1)), minusZero()
	one := complex64(complex(1, 1))
	cases := []struct {
		m    impl.Matrix
		want complex64
	}{
		{matrix([]complex64{complex(3, -2)}), complex(3, -2)},
		{matrix([]complex64{complex(minus, 1)}), complex(minus, 1)},
		{matrix([]complex64{complex(minus, -1)}), complex(0, -1)},
		{matrix([]complex64{0, 1}, []complex64{1, 0}), complex(-1, minus)},
		{matrix([]complex64{1, 2}, []complex64{2, 5}), complex(1, minus)},
		{matrix([]complex64{2, 0}, []complex64{0, 5}), 10},
		{matrix([]complex64{i, 0}, []complex64{0, i}), -1},
		// The signs are turned when all pivots are multiplied.
		{matrix([]complex64{0, one}, []complex64{one, 0}), complex(minus, -2)},
		{matrix([]complex64{one, 0}, []complex64{0, one}), complex(0, 2)},
		{matrix([]complex64{0, 0, 1}, []complex64{1, 0, 0}, []complex64{0, 1, 0}), 1},
		{matrix([]complex64{0, 1, 0}, []complex64{1, 0, 0}, []complex64{0, 0, 1}), complex(-1, minus)},
		{matrix([]complex64{0, 0, 1}, []complex64{0, 1, 0}, []complex64{1, 0, 0}), complex(-1, minus)},
		// The product is narrowed after each pivot.
		{matrix([]complex64{1e19, 0, 0}, []complex64{0, 1e19, 0}, []complex64{0, 0, 1e19}), complex(inf32(), 0)},
		{matrix([]complex64{0, 0}, []complex64{0, 1}), 0},
	}
	for _, c := range cases {
		got, ok := impl.DeterminantOf(c.m)
		isSum(t, fmt.Sprint("determinant of ", c.m.Rows), got, ok, c.want)
	}
	eachSize(func(rows, columns int) {
		_, ok := impl.DeterminantOf(drawnMatrix(7, rows, columns))
		isEqual(t, fmt.Sprint("determinant of ", rows, columns), ok, rows == columns)
	})
	for _, m := range append(wrongMatrices(), onesMatrix(1, 2), onesMatrix(2, 1), onesMatrix(8, 7)) {
		got, ok := impl.DeterminantOf(m)
		isNoSum(t, fmt.Sprint("determinant of ", m.Rows), got, ok)
	}
}

// Determinants have the told bits, in all sizes.
func TestDeterminantsToTheBit(t *testing.T) {
	turned := 0
	for size := 1; size <= 8; size++ {
		for seed := range uint32(150) {
			for _, m := range []impl.Matrix{drawnMatrix(seed, size, size), wholeMatrix(seed, size)} {
				s, want := solve(m, ones(size)), complex64(0)
				if s.ok {
					want = 1
					for _, pivot := range s.pivots {
						want = impl.MulComplex(want, pivot)
					}
				}
				if s.changes%2 == 1 {
					want = complex(-real(want), -imag(want))
					turned++
				}
				got, ok := impl.DeterminantOf(m)
				isSum(t, fmt.Sprint("determinant of ", m.Rows), got, ok, want)
			}
		}
	}
	isEqual(t, "some signs are turned", turned > 100, true)
}

func TestInverseMatrix(t *testing.T) {
	i := complex64(complex(0, 1))
	got, ok := impl.InverseMatrix(matrix([]complex64{0, 1}, []complex64{1, 0}))
	isMatrix(t, "inverse", got, ok, [][]complex64{{0, 1}, {1, 0}})
	got, ok = impl.InverseMatrix(matrix([]complex64{2 * i}))
	isMatrix(t, "inverse of 2 i", got, ok, [][]complex64{{complex(0, -0.5)}})
	for size := 1; size <= 8; size++ {
		for seed := range uint32(60) {
			for _, m := range []impl.Matrix{drawnMatrix(seed, size, size), wholeMatrix(seed, size)} {
				isInverse(t, m)
			}
		}
	}
	eachSize(func(rows, columns int) {
		_, ok := impl.InverseMatrix(drawnMatrix(7, rows, columns))
		isEqual(t, fmt.Sprint("inverse of ", rows, columns), ok, rows == columns)
	})
	for _, m := range append(wrongMatrices(), onesMatrix(1, 2), onesMatrix(2, 1), onesMatrix(8, 7)) {
		got, ok := impl.InverseMatrix(m)
		isMatrix(t, fmt.Sprint("inverse of ", m.Rows), got, ok, nil)
	}
}

// isInverse fails the test unless each column of the inverse has the told bits, and
// its product with the matrix is nearly the unit matrix.
func isInverse(t *testing.T, m impl.Matrix) {
	t.Helper()
	size := len(m.Rows)
	want := make([][]complex64, size)
	most := 1.0
	for j := range size {
		unit := make([]complex64, size)
		unit[j] = 1
		s := solve(m, unit)
		if !s.ok {
			want = nil
			break
		}
		for i := range size {
			want[i] = append(want[i], s.x[i])
		}
		most = max(most, longest(s.x))
	}
	got, ok := impl.InverseMatrix(m)
	isMatrix(t, fmt.Sprint("inverse of ", m.Rows), got, ok, want)
	if !ok {
		return
	}
	product, _ := impl.MulMatrices(m, got)
	for i, row := range product.Rows {
		row[i] -= 1
		isEqual(t, fmt.Sprint("near the unit: ", product.Rows), slices.ContainsFunc(row, func(x complex64) bool { return longOf(x) > 2e-5*most }), false)
	}
}
