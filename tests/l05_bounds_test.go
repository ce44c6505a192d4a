package tests

import (
	"fmt"
	"slices"
	"testing"

	"loop.example/g01181/impl"
)

// unit returns the rows of the unit matrix.
func unit(size int) [][]complex64 {
	m, _ := impl.UnitMatrix(int64(size))
	return m.Rows
}

func TestBoundWeights(t *testing.T) {
	i, minus := complex64(complex(0, 1)), minusZero()
	two := matrix([]complex64{2, 0}, []complex64{0, 4})
	cases := []struct {
		m      impl.Matrix
		bounds [][]complex64
		values []complex64
		want   []complex64
	}{
		{two, [][]complex64{{1, 0}}, []complex64{4}, []complex64{4, 0}},
		{two, [][]complex64{{1, 0}, {0, 1}}, []complex64{4, i}, []complex64{4, i}},
		{two, [][]complex64{{0, 1}, {1, 0}}, []complex64{4, i}, []complex64{i, 4}},
		{two, [][]complex64{{2, 4}}, []complex64{3}, []complex64{0.5, 0.5}},
		// The conjugates of bounds have the values, not the bounds.
		{matrix([]complex64{1}), [][]complex64{{i}}, []complex64{3}, []complex64{3 * i}},
		{matrix([]complex64{1, 0}, []complex64{0, 1}), [][]complex64{{1, i}}, []complex64{2}, []complex64{1, i}},
		{matrix([]complex64{1, 0}, []complex64{0, 1}), [][]complex64{{1, i}, {1, -i}}, []complex64{2, 0}, []complex64{1, i}},
		{matrix([]complex64{0, 1}, []complex64{1, 0}), [][]complex64{{1, 2}}, []complex64{8}, []complex64{4, 2}},
		// Without values other than 0, there are no weights but zeros.
		{two, [][]complex64{{1, 2}}, []complex64{0}, []complex64{0, 0}},
		{matrix([]complex64{-1}), [][]complex64{{1}}, []complex64{complex(minus, minus)}, []complex64{0}},
		// Bounds that depend on each other, and zeros, have none.
		{two, [][]complex64{{1, 0}, {1, 0}}, ones(2), nil},
		{two, [][]complex64{{1, 0}, {i, 0}}, ones(2), nil},
		{two, [][]complex64{{1, 0}, {0, 0}}, ones(2), nil},
		{two, [][]complex64{{0, 0}}, ones(1), nil},
		{two, [][]complex64{{1, 0}, {0, 1}, {1, 1}}, ones(3), nil},
		{matrix([]complex64{1}), [][]complex64{{1}, {2}}, ones(2), nil},
		{matrix([]complex64{1}), [][]complex64{{1}, {2}, {3}, {4}}, ones(4), nil},
		{matrix([]complex64{0, 1}, []complex64{1, 0}), [][]complex64{{1, 0}}, ones(1), nil},
		// Matrices without solutions have none.
		{onesMatrix(2, 2), [][]complex64{{1, 0}}, ones(1), nil},
		{matrix([]complex64{0}), [][]complex64{{1}}, ones(1), nil},
		{matrix([]complex64{complex(nan32(), 0)}), [][]complex64{{1}}, ones(1), nil},
		{matrix([]complex64{1}), [][]complex64{{complex(nan32(), 0)}}, ones(1), nil},
		{matrix([]complex64{1}), [][]complex64{{complex(inf32(), 0)}}, ones(1), nil},
		{matrix([]complex64{1}), boundOf(2), []complex64{complex(nan32(), 0)}, []complex64{complex(nan32(), nan32())}},
	}
	for _, c := range cases {
		got, ok := impl.BoundWeights(c.m, c.bounds, c.values)
		isWeights(t, fmt.Sprint("weights for ", c.m.Rows, c.bounds, c.values), got, ok, c.want)
	}
}

// boundOf returns one bound of one number.
func boundOf(x complex64) [][]complex64 {
	return [][]complex64{{x}}
}

// boundTold returns weights for bounds as the document tells them, or none.
func boundTold(m impl.Matrix, bounds [][]complex64, values []complex64) []complex64 {
	var solutions [][]complex64
	for _, bound := range bounds {
		s := solve(m, bound)
		if !s.ok {
			return nil
		}
		solutions = append(solutions, s.x)
	}
	g := impl.Matrix{Rows: make([][]complex64, len(bounds))}
	for i, bound := range bounds {
		for _, y := range solutions {
			dot, _ := impl.DotConjugate(bound, y)
			g.Rows[i] = append(g.Rows[i], dot)
		}
	}
	z := solve(g, values)
	if !z.ok {
		return nil
	}
	weights := make([]complex64, len(m.Rows))
	for k := range weights {
		for i, y := range solutions {
			weights[k] = plus(weights[k], impl.MulComplex(z.x[i], y[k]))
		}
	}
	return weights
}

// covariance returns a Hermitian matrix that is far from a singular one.
func covariance(seed uint32, size int) impl.Matrix {
	a := drawnMatrix(seed, size, size)
	product, _ := impl.MulMatrices(a, adjointRows(a))
	loaded, _ := impl.LoadMatrix(product, 0.5)
	return loaded
}

// Promise 6: weights have the told values for their bounds, and the told bits, for
// all sizes and numbers of bounds.
func TestWeightsHaveTheValuesOfBounds(t *testing.T) {
	for size := 1; size <= 8; size++ {
		for count := 1; count <= 4; count++ {
			for seed := range uint32(60) {
				m, bounds, values := covariance(seed, size), drawnMatrix(seed+20, count, size).Rows, drawn(seed+30, count)
				got, ok := impl.BoundWeights(m, bounds, values)
				isWeights(t, fmt.Sprint("weights for ", m.Rows, bounds, values), got, ok, boundTold(m, bounds, values))
				if count <= size {
					isEqual(t, "weights for bounds", ok && len(got) == size, true)
				}
				for i, bound := range bounds {
					value, _ := impl.DotConjugate(bound, got)
					if count <= size && !(longOf(minus(value, values[i])) < 2e-5*longest(got)*longest(got)) {
						t.Errorf("weights %v for %v have the value %v, want %v", got, bound, value, values[i])
					}
				}
			}
		}
	}
}

// Weights for other matrices and odd numbers have the told bits, too.
func TestBoundWeightsToTheBit(t *testing.T) {
	odd := oddComplexes()
	for size := 1; size <= 8; size++ {
		for seed := range uint32(120) {
			count := int(seed)%4 + 1
			m, bounds, values := wholeMatrix(seed, size), drawnMatrix(seed, count, size).Rows, whole(seed, count)
			x := odd[int(seed)*size*3%len(odd)]
			switch seed / 4 % 4 {
			case 1:
				values[count-1] = x
			case 2:
				bounds[count/2][size/2] = x
			case 3:
				m.Rows[size/2][0] = x
			}
			got, ok := impl.BoundWeights(m, bounds, values)
			isWeights(t, fmt.Sprint("weights for ", m.Rows, bounds, values), got, ok, boundTold(m, bounds, values))
		}
	}
}

// There are 1 to 4 bounds, with as many values, and as many numbers as rows.
func TestBoundsHaveLimits(t *testing.T) {
	for size := 1; size <= 8; size++ {
		m := impl.Matrix{Rows: unit(size)}
		for count := range size + 1 {
			for many := range 7 {
				got, ok := impl.BoundWeights(m, unit(size)[:count], ones(many))
				var want []complex64
				if count >= 1 && count <= 4 && many == count {
					want = append(ones(count), make([]complex64, size-count)...)
				}
				isWeights(t, fmt.Sprint("weights for bounds ", size, count, many), got, ok, want)
			}
		}
		for _, wrong := range []int{0, size - 1, size + 1, 8 + size} {
			for at := range min(size, 4) {
				bounds := unit(size)[:min(size, 4)]
				bounds[at] = ones(wrong)
				got, ok := impl.BoundWeights(m, bounds, ones(len(bounds)))
				isWeights(t, fmt.Sprint("weights for ", bounds), got, ok, nil)
			}
		}
	}
	got, ok := impl.BoundWeights(matrix(ones(1)), nil, nil)
	isWeights(t, "weights for no bounds", got, ok, nil)
}

func TestBoundWeightsRefuses(t *testing.T) {
	matrices := append(wrongMatrices(), onesMatrix(1, 2), onesMatrix(2, 1), onesMatrix(8, 7), onesMatrix(7, 8))
	for _, m := range matrices {
		for _, count := range []int{0, 1, 2, 7, 8, 9} {
			got, ok := impl.BoundWeights(m, [][]complex64{ones(count)}, ones(1))
			isWeights(t, fmt.Sprint("weights for ", m.Rows), got, ok, nil)
		}
	}
	for _, many := range []int{5, 8, 9, 100} {
		got, ok := impl.BoundWeights(impl.Matrix{Rows: unit(8)}, slices.Repeat(unit(8), 13)[:many], ones(many))
		isWeights(t, fmt.Sprint("weights for bounds ", many), got, ok, nil)
	}
}
