package tests

import (
	"fmt"
	"math"
	"testing"

	"loop.example/g01181/impl"
)

// isRest fails the test unless equations leave the told numbers, with the greatest
// length.
func isRest(t *testing.T, m impl.Matrix, x, b, want []complex64, greatest float32) {
	t.Helper()
	got, most, ok := impl.RestOf(m, x, b)
	what := fmt.Sprint("rest of ", m.Rows, x, b)
	isWeights(t, what, got, ok, want)
	isNumber(t, what+", greatest length", most, greatest)
}

func TestRestOf(t *testing.T) {
	i, minus, none, inf := complex64(complex(0, 1)), minusZero(), nan32(), inf32()
	fine := complex(float32(1+math.Exp2(-13)), 0)
	great := float32(math.Exp2(60))
	cases := []struct {
		m        impl.Matrix
		x, b     []complex64
		want     []complex64
		greatest float32
	}{
		{matrix([]complex64{2, 0}, []complex64{0, 4}), ones(2), []complex64{2, 5}, []complex64{0, 1}, 1},
		{matrix([]complex64{2}), []complex64{i}, []complex64{5}, []complex64{complex(5, -2)}, float32(math.Sqrt(29))},
		{matrix([]complex64{complex(1, 2)}), []complex64{complex(3, -1)}, []complex64{complex(9, 2)}, []complex64{complex(4, -3)}, 5},
		// There can be more rows or columns, and the greatest length comes anywhere.
		{matrix([]complex64{1, i, 2}), []complex64{1, 1, i}, []complex64{0}, []complex64{complex(-1, -3)}, float32(math.Sqrt(10))},
		{matrix([]complex64{1}, []complex64{2}, []complex64{3}), []complex64{1}, []complex64{1, 9, 4}, []complex64{0, 7, 1}, 7},
		{matrix([]complex64{1}, []complex64{2}, []complex64{3}), []complex64{1}, []complex64{9, 2, 4}, []complex64{8, 0, 1}, 8},
		{matrix([]complex64{1}, []complex64{2}, []complex64{3}), []complex64{0}, []complex64{3, complex(3, 4), 4}, []complex64{3, complex(3, 4), 4}, 5},
		// Products are not narrowed, and are taken away one after another.
		{matrix([]complex64{fine}), []complex64{fine}, []complex64{complex(float32(1+math.Exp2(-12)), 0)},
			[]complex64{complex(float32(-math.Exp2(-26)), 0)}, float32(math.Exp2(-26))},
		{matrix([]complex64{complex(great, 0), complex(-great, 0)}), ones(2), ones(1), []complex64{0}, 0},
		{matrix([]complex64{complex(great, 0), complex(-great, 0), 1}), ones(3), []complex64{0}, []complex64{-1}, 1},
		{matrix([]complex64{1, complex(great, 0), complex(-great, 0)}), ones(3), []complex64{0}, []complex64{0}, 0},
		{matrix([]complex64{complex(great, 0)}), []complex64{complex(great, 0)}, []complex64{0}, []complex64{complex(float32(-math.Exp2(120)), 0)}, float32(math.Exp2(120))},
		{matrix([]complex64{1e30, -1e30}), []complex64{1e30, 1e30}, ones(1), []complex64{0}, 0},
		// Zeros have the signs of the differences.
		{matrix([]complex64{0}), []complex64{0}, []complex64{complex(minus, minus)}, []complex64{complex(minus, minus)}, 0},
		{matrix([]complex64{0}), []complex64{-1}, []complex64{complex(minus, minus)}, []complex64{complex(0, minus)}, 0},
		// Not-a-numbers are no length, and all of them leave +0.
		{matrix([]complex64{1}, []complex64{complex(none, 0)}, []complex64{2}), ones(1), []complex64{5, 1, 3},
			[]complex64{4, complex(none, none), 1}, 4},
		{matrix([]complex64{complex(none, 0)}, []complex64{1}), ones(1), []complex64{5, 3}, []complex64{complex(none, none), 2}, 2},
		{matrix([]complex64{1}, []complex64{1}), ones(1), []complex64{5, complex(none, 3)}, []complex64{4, complex(none, 3)}, 4},
		{matrix([]complex64{complex(none, 0)}, []complex64{1}), []complex64{complex(0, none)}, ones(2),
			[]complex64{complex(none, none), complex(none, none)}, 0},
		{matrix([]complex64{1}), ones(1), []complex64{complex(inf, none)}, []complex64{complex(inf, none)}, 0},
		{matrix([]complex64{1}, []complex64{1}), ones(1), []complex64{2, complex(3, -inf)}, []complex64{1, complex(2, -inf)}, inf},
		{matrix([]complex64{1}), []complex64{complex(inf, 0)}, ones(1), []complex64{complex(-inf, none)}, 0},
	}
	for _, c := range cases {
		isRest(t, c.m, c.x, c.b, c.want, c.greatest)
	}
}

// restTold returns what is left of b, computed with parts of 64 bits.
func restTold(row, x []complex64, b complex64) complex64 {
	re, im := float64(real(b)), float64(imag(b))
	for j, y := range row {
		p, q, r, s := float64(real(y)), float64(imag(y)), float64(real(x[j])), float64(imag(x[j]))
		first, second, third, fourth := p*r, q*s, p*s, q*r
		productRe, productIm := first-second, third+fourth
		re, im = re-productRe, im-productIm
	}
	return complex(float32(re), float32(im))
}

// Rests have the told bits, in all sizes.
func TestRestsToTheBit(t *testing.T) {
	odd := oddComplexes()
	eachSize(func(rows, columns int) {
		for seed := range uint32(40) {
			m, x, b := drawnMatrix(seed, rows, columns), drawn(seed+3, columns), drawn(seed+4, rows)
			at := odd[(int(seed)*41+rows*8+columns)%len(odd)]
			switch seed % 4 {
			case 1:
				m.Rows[rows/2][columns/2] = at
			case 2:
				x[columns-1] = at
			case 3:
				b[0] = at
			}
			var greatest float32
			want := make([]complex64, rows)
			for i, row := range m.Rows {
				want[i] = restTold(row, x, b[i])
				if long := impl.LongOf(want[i]); !isNot(long) {
					greatest = max(greatest, long)
				}
			}
			isRest(t, m, x, b, want, greatest)
		}
	})
}

// isRestRefused fails the test unless rests and refined solutions are refused.
func isRestRefused(t *testing.T, m impl.Matrix, x, b []complex64) {
	t.Helper()
	isRest(t, m, x, b, nil, 0)
	got, ok := impl.RefineSolution(m, x, b)
	isWeights(t, fmt.Sprint("refined ", m.Rows, x, b), got, ok, nil)
}

func TestRestsRefuse(t *testing.T) {
	for _, m := range wrongMatrices() {
		for _, count := range []int{0, 1, 2, 8, 9} {
			isRestRefused(t, m, ones(count), ones(len(m.Rows)))
			isRestRefused(t, m, ones(count), ones(count))
		}
	}
	eachSize(func(rows, columns int) {
		m := drawnMatrix(3, rows, columns)
		for count := range 11 {
			if count != columns {
				isRestRefused(t, m, ones(count), ones(rows))
			}
			if count != rows {
				isRestRefused(t, m, ones(columns), ones(count))
			}
		}
		_, _, ok := impl.RestOf(m, ones(columns), ones(rows))
		isEqual(t, fmt.Sprint("rest ", rows, columns), ok, true)
		_, ok = impl.RefineSolution(m, ones(columns), ones(rows))
		isEqual(t, fmt.Sprint("refined ", rows, columns), ok, rows == columns)
	})
}

func TestRefineSolution(t *testing.T) {
	m := matrix([]complex64{2, 0}, []complex64{0, 4})
	cases := []struct{ x, b, want []complex64 }{
		{[]complex64{1, 1}, []complex64{2, 6}, []complex64{1, 1.5}},
		{[]complex64{0, 0}, []complex64{2, complex(0, 6)}, []complex64{1, complex(0, 1.5)}},
		{[]complex64{-7, complex(0, 9)}, []complex64{2, 6}, []complex64{1, 1.5}},
		{[]complex64{complex(nan32(), 0), 1}, []complex64{2, 8}, []complex64{complex(nan32(), nan32()), complex(nan32(), nan32())}},
	}
	for _, c := range cases {
		got, ok := impl.RefineSolution(m, c.x, c.b)
		isWeights(t, fmt.Sprint("refined ", c.x, c.b), got, ok, c.want)
	}
	for _, m := range []impl.Matrix{onesMatrix(2, 2), matrix([]complex64{0, 0}, []complex64{0, 1}), matrix([]complex64{1, complex(nan32(), 0)}, ones(2))} {
		got, ok := impl.RefineSolution(m, ones(2), ones(2))
		isWeights(t, fmt.Sprint("refined ", m.Rows), got, ok, nil)
	}
}

// Promise 6: refined solutions have the told bits, and leave nearly nothing, also
// where the ones before them are far away.
func TestRefinedSolutionsLeaveNearlyNothing(t *testing.T) {
	before, behind := 0.0, 0.0
	for size := 1; size <= 8; size++ {
		for seed := range uint32(100) {
			m, x, b := drawnMatrix(seed, size, size), drawn(seed+8, size), drawn(seed+9, size)
			if seed%2 == 0 {
				x = solve(m, b).x
			}
			rests := make([]complex64, size)
			for i, row := range m.Rows {
				rests[i] = restTold(row, x, b[i])
			}
			want := solve(m, rests).x
			for i := range want {
				want[i] = plus(x[i], want[i])
			}
			got, ok := impl.RefineSolution(m, x, b)
			isWeights(t, fmt.Sprint("refined ", m.Rows, x, b), got, ok, want)
			_, greatest, _ := impl.RestOf(m, got, b)
			if !(float64(greatest) <= 1e-5*longest(got)) {
				t.Errorf("refined %v, %v, %v leaves %v", m.Rows, x, b, greatest)
			}
			if seed%2 == 0 {
				_, was, _ := impl.RestOf(m, x, b)
				before, behind = before+float64(was), behind+float64(greatest)
			}
		}
	}
	isEqual(t, fmt.Sprint("rests become less, from ", before, " to ", behind), behind < before, true)
}

func TestLeastSquares(t *testing.T) {
	i := complex64(complex(0, 1))
	cases := []struct {
		m       impl.Matrix
		b, want []complex64
	}{
		{matrix([]complex64{1}, []complex64{1}), []complex64{2, 4}, []complex64{3}},
		{matrix([]complex64{1}, []complex64{i}), []complex64{2, 4}, []complex64{complex(1, -2)}},
		{matrix([]complex64{2}), []complex64{4 * i}, []complex64{2 * i}},
		{matrix([]complex64{1, 0}, []complex64{0, 1}, []complex64{0, 1}), []complex64{5, 1, 3}, []complex64{5, 2}},
		{matrix([]complex64{0, 1}, []complex64{2, 0}), []complex64{3, 4}, []complex64{2, 3}},
		// Fewer rows than columns, or columns that are the same, have no solution.
		{matrix([]complex64{1, 1}), []complex64{2}, nil},
		{matrix([]complex64{1, i}), []complex64{2}, nil},
		{onesMatrix(4, 2), ones(4), nil},
		{matrix([]complex64{0}, []complex64{0}), ones(2), nil},
		{matrix([]complex64{1}, []complex64{complex(nan32(), 0)}), ones(2), nil},
		{matrix([]complex64{1}, []complex64{complex(inf32(), 0)}), ones(2), nil},
		{matrix([]complex64{1}, []complex64{1}), []complex64{1, complex(nan32(), 0)}, []complex64{complex(nan32(), nan32())}},
	}
	for _, c := range cases {
		got, ok := impl.LeastSquares(c.m, c.b)
		isWeights(t, fmt.Sprint("least squares ", c.m.Rows, c.b), got, ok, c.want)
	}
}

// adjointRows returns the conjugates of a matrix with rows as columns.
func adjointRows(m impl.Matrix) impl.Matrix {
	adjoint := impl.Matrix{}
	for j := range m.Rows[0] {
		var row []complex64
		for _, x := range columnAt(m.Rows, j) {
			row = append(row, complex(real(x), -imag(x)))
		}
		adjoint.Rows = append(adjoint.Rows, row)
	}
	return adjoint
}

// Promise 6: least squares have the told bits in all sizes, and what they leave is
// nearly across all columns.
func TestLeastSquaresToTheBit(t *testing.T) {
	eachSize(func(rows, columns int) {
		for seed := range uint32(30) {
			m, b := drawnMatrix(seed, rows, columns), drawn(seed+6, rows)
			adjoint, product := adjointRows(m), impl.Matrix{}
			var values []complex64
			for _, row := range adjoint.Rows {
				var numbers []complex64
				for j := range columns {
					numbers = append(numbers, dotOf(row, columnAt(m.Rows, j)))
				}
				product.Rows = append(product.Rows, numbers)
				values = append(values, dotOf(row, b))
			}
			s := solve(product, values)
			if !s.ok {
				s.x = nil
			}
			got, ok := impl.LeastSquares(m, b)
			isWeights(t, fmt.Sprint("least squares ", m.Rows, b), got, ok, s.x)
			if rows < columns || !ok {
				continue
			}
			rests, _, _ := impl.RestOf(m, got, b)
			for _, row := range adjoint.Rows {
				if across := dotOf(row, rests); !(longOf(across) < 1e-4*longest(got)) {
					t.Errorf("least squares %v, %v leave %v, not across: %v", m.Rows, b, rests, across)
				}
			}
		}
	})
}

func TestLeastSquaresRefuse(t *testing.T) {
	for _, m := range wrongMatrices() {
		for _, count := range []int{0, 1, 2, 8, 9} {
			got, ok := impl.LeastSquares(m, ones(count))
			isWeights(t, fmt.Sprint("least squares ", m.Rows), got, ok, nil)
		}
	}
	eachSize(func(rows, columns int) {
		m := drawnMatrix(21, rows, columns)
		for count := range 12 {
			got, ok := impl.LeastSquares(m, ones(count))
			if count != rows {
				isWeights(t, fmt.Sprint("least squares ", rows, columns, count), got, ok, nil)
			} else if rows >= columns {
				isEqual(t, fmt.Sprint("least squares ", rows, columns, count), ok && len(got) == columns, true)
			}
		}
	})
}
