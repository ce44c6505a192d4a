package tests

import (
	"fmt"
	"slices"
	"testing"

	"loop.example/g01181/impl"
)

// matrix returns the matrix with some rows.
func matrix(rows ...[]complex64) impl.Matrix {
	return impl.Matrix{Rows: rows}
}

// onesMatrix returns a matrix of numbers 1.
func onesMatrix(rows, columns int) impl.Matrix {
	m := impl.Matrix{Rows: make([][]complex64, rows)}
	for i := range m.Rows {
		m.Rows[i] = ones(columns)
	}
	return m
}

// drawn returns numbers with parts from -1 to 1, in no order, which seed tells.
func drawn(seed uint32, count int) []complex64 {
	part := func() float32 {
		seed = seed*1664525 + 1013904223
		return float32(int32(seed)) / (1 << 31)
	}
	seed = seed*2654435761 + 12345
	list := make([]complex64, count)
	for i := range list {
		re := part()
		list[i] = complex(re, part())
	}
	return list
}

// drawnMatrix returns a matrix of drawn numbers.
func drawnMatrix(seed uint32, rows, columns int) impl.Matrix {
	m, numbers := impl.Matrix{}, drawn(seed, rows*columns)
	for i := range rows {
		m.Rows = append(m.Rows, slices.Clone(numbers[i*columns:(i+1)*columns]))
	}
	return m
}

// withNumber returns a copy of a matrix, in which one number is another.
func withNumber(m impl.Matrix, i, j int, x complex64) impl.Matrix {
	changed := impl.Matrix{}
	for _, row := range m.Rows {
		changed.Rows = append(changed.Rows, slices.Clone(row))
	}
	changed.Rows[i][j] = x
	return changed
}

// isMatrix fails the test unless a call has succeeded with the rows want, or has
// failed with the zero matrix where want is nil.
func isMatrix(t *testing.T, what string, got impl.Matrix, ok bool, want [][]complex64) {
	t.Helper()
	if ok != (want != nil) || !slices.EqualFunc(got.Rows, want, sameList) {
		t.Errorf("%s: got %v, %v, want %v", what, got.Rows, ok, want)
	}
}

// wrongMatrices returns matrices without rows or columns, with too many of them,
// and with rows of different lengths.
func wrongMatrices() []impl.Matrix {
	return []impl.Matrix{
		{}, {Rows: [][]complex64{}}, matrix(nil), matrix([]complex64{}), matrix(nil, nil), matrix([]complex64{}, []complex64{}),
		onesMatrix(9, 1), onesMatrix(1, 9), onesMatrix(9, 8), onesMatrix(8, 9), onesMatrix(9, 9), onesMatrix(100, 100), onesMatrix(9, 0),
		matrix(ones(2), ones(1)), matrix(ones(1), ones(2)), matrix(nil, ones(1)), matrix(ones(1), nil),
		matrix(ones(2), ones(2), ones(1)), matrix(ones(2), ones(2), ones(3)), matrix(ones(3), ones(2), ones(2)),
		matrix(ones(8), ones(9)), matrix(ones(9), ones(8)), matrix(ones(2), ones(0)),
	}
}

// eachSize calls visit with all numbers of rows and columns up to 8.
func eachSize(visit func(rows, columns int)) {
	for rows := 1; rows <= 8; rows++ {
		for columns := 1; columns <= 8; columns++ {
			visit(rows, columns)
		}
	}
}

func TestValidMatrix(t *testing.T) {
	for rows := range 12 {
		for columns := range 12 {
			isEqual(t, fmt.Sprint("valid matrix ", rows, columns), impl.ValidMatrix(onesMatrix(rows, columns)),
				rows >= 1 && rows <= 8 && columns >= 1 && columns <= 8)
		}
	}
	for _, m := range wrongMatrices() {
		isEqual(t, fmt.Sprint("valid matrix ", m.Rows), impl.ValidMatrix(m), false)
	}
	for _, x := range oddComplexes() {
		isEqual(t, "valid matrix of any number", impl.ValidMatrix(matrix([]complex64{x, 1}, []complex64{2, x})), true)
	}
}

func TestSameMatrix(t *testing.T) {
	odd := oddComplexes()
	eachSize(func(rows, columns int) {
		m := drawnMatrix(1, rows, columns)
		isEqual(t, "same matrix", impl.SameMatrix(m, drawnMatrix(1, rows, columns)), true)
		isEqual(t, "same matrix with another size", impl.SameMatrix(onesMatrix(rows, columns), onesMatrix(columns, rows)), rows == columns)
		isEqual(t, "same matrix with more columns", impl.SameMatrix(onesMatrix(rows, columns), onesMatrix(rows, columns%8+1)), false)
		isEqual(t, "same matrix with more rows", impl.SameMatrix(onesMatrix(rows, columns), onesMatrix(rows%8+1, columns)), false)
		for i := range rows {
			for j := range columns {
				isEqual(t, "same matrix with another number", impl.SameMatrix(m, withNumber(m, i, j, 3)), false)
			}
		}
	})
	for _, x := range odd {
		for _, y := range odd {
			same := sameList([]complex64{x}, []complex64{y})
			isEqual(t, fmt.Sprint("same ", x, y), impl.SameMatrix(matrix([]complex64{1, x}), matrix([]complex64{1, y})), same)
		}
	}
	for _, m := range wrongMatrices() {
		isEqual(t, "wrong matrix and itself", impl.SameMatrix(m, m), false)
		isEqual(t, "wrong matrix first", impl.SameMatrix(m, onesMatrix(1, 1)), false)
		isEqual(t, "wrong matrix second", impl.SameMatrix(onesMatrix(1, 1), m), false)
	}
}

func TestUnitMatrix(t *testing.T) {
	for size := 1; size <= 8; size++ {
		want := make([][]complex64, size)
		for i := range want {
			want[i] = make([]complex64, size)
			want[i][i] = 1
		}
		got, ok := impl.UnitMatrix(int64(size))
		isMatrix(t, fmt.Sprint("unit ", size), got, ok, want)
	}
	for _, wrong := range append(farIntegers(), -8, -1, 0, 9, 10, 1<<32+1) {
		got, ok := impl.UnitMatrix(wrong)
		isMatrix(t, fmt.Sprint("unit ", wrong), got, ok, nil)
	}
}

func TestAdjointOf(t *testing.T) {
	got, ok := impl.AdjointOf(matrix([]complex64{complex(1, 2), 3}, []complex64{complex(0, -5), complex(minusZero(), minusZero())}))
	isMatrix(t, "adjoint", got, ok, [][]complex64{{complex(1, -2), complex(0, 5)}, {complex(3, minusZero()), complex(minusZero(), 0)}})
	eachSize(func(rows, columns int) {
		m, want := drawnMatrix(5, rows, columns), make([][]complex64, columns)
		for j := range columns {
			for _, row := range m.Rows {
				want[j] = append(want[j], impl.ConjugateOf(row[j]))
			}
		}
		got, ok := impl.AdjointOf(m)
		isMatrix(t, fmt.Sprint("adjoint ", rows, columns), got, ok, want)
		again, ok := impl.AdjointOf(got)
		isMatrix(t, "adjoint of the adjoint", again, ok, m.Rows)
	})
	for _, x := range oddComplexes() {
		got, ok := impl.AdjointOf(matrix([]complex64{x}))
		isMatrix(t, fmt.Sprint("adjoint of ", x), got, ok, [][]complex64{{impl.ConjugateOf(x)}})
	}
	for _, m := range wrongMatrices() {
		got, ok := impl.AdjointOf(m)
		isMatrix(t, fmt.Sprint("adjoint of ", m.Rows), got, ok, nil)
	}
}

func TestAddMatrices(t *testing.T) {
	odd := oddComplexes()
	eachSize(func(rows, columns int) {
		a, b := drawnMatrix(2, rows, columns), drawnMatrix(3, rows, columns)
		a = withNumber(a, rows-1, columns-1, odd[(rows*31+columns)%len(odd)])
		b = withNumber(b, rows/2, columns/2, odd[(columns*17+rows)%len(odd)])
		want := make([][]complex64, rows)
		for i := range rows {
			for j := range columns {
				want[i] = append(want[i], plus(a.Rows[i][j], b.Rows[i][j]))
			}
		}
		got, ok := impl.AddMatrices(a, b)
		isMatrix(t, fmt.Sprint("sum ", rows, columns), got, ok, want)
		got, ok = impl.AddMatrices(a, onesMatrix(rows, columns%8+1))
		isMatrix(t, "sum with more columns", got, ok, nil)
		got, ok = impl.AddMatrices(a, onesMatrix(rows%8+1, columns))
		isMatrix(t, "sum with more rows", got, ok, nil)
	})
	for k, x := range odd {
		y := odd[k*7%len(odd)]
		got, ok := impl.AddMatrices(matrix([]complex64{x}), matrix([]complex64{y}))
		isMatrix(t, fmt.Sprint("sum ", x, y), got, ok, [][]complex64{{plus(x, y)}})
	}
	got, ok := impl.AddMatrices(onesMatrix(2, 4), onesMatrix(4, 2))
	isMatrix(t, "sum of as many numbers", got, ok, nil)
	for _, m := range wrongMatrices() {
		for _, pair := range [][2]impl.Matrix{{m, m}, {m, onesMatrix(1, 1)}, {onesMatrix(1, 1), m}} {
			got, ok := impl.AddMatrices(pair[0], pair[1])
			isMatrix(t, fmt.Sprint("sum ", pair), got, ok, nil)
		}
	}
}

// dotOf returns the sum of products from left to right, without the lists of impl.
func dotOf(a, b []complex64) complex64 {
	var sum complex64
	for i := range a {
		sum = plus(sum, impl.MulComplex(a[i], b[i]))
	}
	return sum
}

// columnAt returns a column of rows.
func columnAt(rows [][]complex64, j int) []complex64 {
	var column []complex64
	for _, row := range rows {
		column = append(column, row[j])
	}
	return column
}

func TestMulMatrices(t *testing.T) {
	i := complex64(complex(0, 1))
	got, ok := impl.MulMatrices(matrix([]complex64{1, i}, []complex64{2, 0}), matrix([]complex64{3, 1}, []complex64{i, 5}))
	isMatrix(t, "product", got, ok, [][]complex64{{2, complex(1, 5)}, {6, 2}})
	// Each sum goes from left to right, and begins with +0 + 0 i.
	got, ok = impl.MulMatrices(matrix([]complex64{1e8, 1, -1e8}), onesMatrix(3, 1))
	isMatrix(t, "product from left to right", got, ok, [][]complex64{{0}})
	got, ok = impl.MulMatrices(matrix([]complex64{-1}), matrix([]complex64{0, complex(0, 2)}))
	isMatrix(t, "product with zeros", got, ok, [][]complex64{{0, complex(0, -2)}})
	got, ok = impl.MulMatrices(matrix([]complex64{complex(inf32(), 0)}), onesMatrix(1, 1))
	isMatrix(t, "product with an infinity", got, ok, [][]complex64{{complex(inf32(), nan32())}})
	odd := oddComplexes()
	eachSize(func(rows, columns int) {
		for inner := 1; inner <= 8; inner++ {
			a, b := drawnMatrix(7, rows, inner), drawnMatrix(9, inner, columns)
			a = withNumber(a, rows/2, inner/2, odd[(rows*64+inner*8+columns)*5%len(odd)])
			want := make([][]complex64, rows)
			for i := range rows {
				for j := range columns {
					want[i] = append(want[i], dotOf(a.Rows[i], columnAt(b.Rows, j)))
				}
			}
			got, ok := impl.MulMatrices(a, b)
			isMatrix(t, fmt.Sprint("product ", rows, inner, columns), got, ok, want)
			got, ok = impl.MulMatrices(a, onesMatrix(inner%8+1, columns))
			isMatrix(t, "product with more rows", got, ok, nil)
		}
	})
	for _, m := range wrongMatrices() {
		for _, pair := range [][2]impl.Matrix{{m, m}, {m, onesMatrix(1, 1)}, {onesMatrix(1, 1), m}, {m, onesMatrix(2, 2)}, {onesMatrix(2, 2), m}} {
			got, ok := impl.MulMatrices(pair[0], pair[1])
			isMatrix(t, fmt.Sprint("product ", pair), got, ok, nil)
		}
	}
}

func TestMulVector(t *testing.T) {
	got, ok := impl.MulVector(matrix([]complex64{0, 1}, []complex64{1, 0}), []complex64{5, 6})
	isWeights(t, "exchanged numbers", got, ok, []complex64{6, 5})
	got, ok = impl.MulVector(matrix([]complex64{1, complex(0, 1)}), []complex64{complex(0, 1), 2})
	isWeights(t, "one row", got, ok, []complex64{complex(0, 3)})
	got, ok = impl.MulVector(matrix([]complex64{1e8, 1, -1e8}, []complex64{1e8, -1e8, 1}), ones(3))
	isWeights(t, "from left to right", got, ok, []complex64{0, 1})
	odd := oddComplexes()
	eachSize(func(rows, columns int) {
		m, x := drawnMatrix(11, rows, columns), drawn(12, columns)
		x[columns/2] = odd[(rows*30+columns)%len(odd)]
		var want []complex64
		for _, row := range m.Rows {
			want = append(want, dotOf(row, x))
		}
		got, ok := impl.MulVector(m, x)
		isWeights(t, fmt.Sprint("product ", rows, columns), got, ok, want)
		for _, count := range []int{0, columns - 1, columns + 1, 64, 65} {
			got, ok := impl.MulVector(m, ones(count))
			isWeights(t, fmt.Sprint("product with ", count), got, ok, nil)
		}
	})
	for _, m := range wrongMatrices() {
		for _, count := range []int{0, 1, 2, 8, 9} {
			got, ok := impl.MulVector(m, ones(count))
			isWeights(t, fmt.Sprint("product of ", m.Rows), got, ok, nil)
		}
	}
}

func TestIsHermitian(t *testing.T) {
	i, minus, none := complex64(complex(0, 1)), minusZero(), nan32()
	cases := []struct {
		m    impl.Matrix
		want bool
	}{
		{matrix([]complex64{5}), true},
		{matrix([]complex64{i}), false},
		{matrix([]complex64{complex(5, minus)}), true},
		{matrix([]complex64{complex(minus, minus)}), true},
		{matrix([]complex64{1, i}, []complex64{-i, 2}), true},
		{matrix([]complex64{1, i}, []complex64{i, 2}), false},
		{matrix([]complex64{1, 2}, []complex64{2, 1}), true},
		{matrix([]complex64{1, 2}, []complex64{3, 1}), false},
		{matrix([]complex64{1, 2}, []complex64{-2, 1}), false},
		{matrix([]complex64{1, 2}, []complex64{2, i}), false},
		{matrix([]complex64{1, complex(0, 3)}, []complex64{complex(minus, -3), 1}), true},
		{matrix([]complex64{1, complex(3, 0)}, []complex64{complex(3, 0), 1}), true},
		{matrix([]complex64{1, complex(minus, minus)}, []complex64{0, 1}), true},
		{matrix([]complex64{1, complex(inf32(), -inf32())}, []complex64{complex(inf32(), inf32()), 1}), true},
		{matrix([]complex64{1, complex(inf32(), inf32())}, []complex64{complex(inf32(), inf32()), 1}), false},
		{matrix([]complex64{complex(inf32(), 0)}), true},
		{matrix([]complex64{complex(0, inf32())}), false},
		{matrix([]complex64{complex(none, 0)}), false},
		{matrix([]complex64{complex(0, none)}), false},
		{matrix([]complex64{1, complex(none, 0)}, []complex64{complex(none, 0), 1}), false},
		{matrix([]complex64{1, complex(0, none)}, []complex64{complex(0, none), 1}), false},
		// A matrix with more rows or columns has none that are exchanged.
		{matrix([]complex64{1, 0}), false},
		{matrix([]complex64{1}, []complex64{0}), false},
		{matrix([]complex64{1, 0, 0}, []complex64{0, 1, 0}), false},
		{matrix([]complex64{0, 0}), false},
	}
	for _, c := range cases {
		isEqual(t, fmt.Sprint("Hermitian ", c.m.Rows), impl.IsHermitian(c.m), c.want)
	}
	for _, m := range wrongMatrices() {
		isEqual(t, fmt.Sprint("Hermitian ", m.Rows), impl.IsHermitian(m), false)
	}
}

// Each number of a Hermitian matrix counts, in all sizes.
func TestEachNumberCountsForHermitian(t *testing.T) {
	for size := 1; size <= 8; size++ {
		m := drawnMatrix(uint32(size), size, size)
		for i := range size {
			m.Rows[i][i] = complex(real(m.Rows[i][i]), 0)
			for j := range i {
				m.Rows[i][j] = impl.ConjugateOf(m.Rows[j][i])
			}
		}
		isEqual(t, "Hermitian", impl.IsHermitian(m), true)
		for i := range size {
			for j := range size {
				x := m.Rows[i][j]
				isEqual(t, "another imaginary part", impl.IsHermitian(withNumber(m, i, j, x+complex(0, 2))), false)
				isEqual(t, "another real part", impl.IsHermitian(withNumber(m, i, j, x+2)), i == j)
				isEqual(t, "not-a-number", impl.IsHermitian(withNumber(m, i, j, complex(nan32(), imag(x)))), false)
			}
		}
	}
}

func TestLoadMatrix(t *testing.T) {
	minus := minusZero()
	got, ok := impl.LoadMatrix(matrix([]complex64{complex(1, 2), 3}, []complex64{complex(0, 4), complex(5, minus)}), -2)
	isMatrix(t, "loaded", got, ok, [][]complex64{{complex(-1, 2), 3}, {complex(0, 4), complex(3, minus)}})
	got, ok = impl.LoadMatrix(matrix([]complex64{complex(minus, minus), complex(minus, minus)}, []complex64{complex(minus, minus), 0}), 0)
	isMatrix(t, "loaded with 0", got, ok, [][]complex64{{complex(0, minus), complex(minus, minus)}, {complex(minus, minus), 0}})
	got, ok = impl.LoadMatrix(matrix([]complex64{complex(minus, minus)}), minus)
	isMatrix(t, "loaded with -0", got, ok, [][]complex64{{complex(minus, minus)}})
	for _, by := range oddNumbers() {
		for size := 1; size <= 8; size++ {
			m := drawnMatrix(uint32(size), size, size)
			want := withNumber(m, 0, 0, m.Rows[0][0])
			for i := range size {
				want.Rows[i][i] = complex(real(m.Rows[i][i])+by, imag(m.Rows[i][i]))
			}
			got, ok := impl.LoadMatrix(m, by)
			isMatrix(t, fmt.Sprint("loaded with ", by), got, ok, want.Rows)
		}
	}
	eachSize(func(rows, columns int) {
		_, ok := impl.LoadMatrix(onesMatrix(rows, columns), 1)
		isEqual(t, fmt.Sprint("loaded ", rows, columns), ok, rows == columns)
	})
	for _, m := range append(wrongMatrices(), onesMatrix(1, 2), onesMatrix(2, 1)) {
		got, ok := impl.LoadMatrix(m, 1)
		isMatrix(t, fmt.Sprint("loaded ", m.Rows), got, ok, nil)
	}
}

func TestFormOf(t *testing.T) {
	i := complex64(complex(0, 1))
	cases := []struct {
		m    impl.Matrix
		x    []complex64
		want complex64
	}{
		{matrix([]complex64{0, 1}, []complex64{1, 0}), []complex64{1, 2}, 4},
		{matrix([]complex64{i}), []complex64{complex(1, 2)}, complex(0, 5)},
		{matrix([]complex64{1, i}, []complex64{-i, 2}), []complex64{i, 1}, 5},
		{matrix([]complex64{0, 1}, []complex64{0, 0}), []complex64{i, 3}, complex(0, -3)},
		{matrix([]complex64{complex(nan32(), 0)}), ones(1), complex(nan32(), nan32())},
		{matrix([]complex64{complex(minusZero(), 0)}), ones(1), 0},
	}
	for _, c := range cases {
		got, ok := impl.FormOf(c.m, c.x)
		isSum(t, fmt.Sprint("form ", c.m.Rows, c.x), got, ok, c.want)
	}
	eachSize(func(rows, columns int) {
		m, x := drawnMatrix(13, rows, columns), drawn(14, columns)
		got, ok := impl.FormOf(m, x)
		if rows != columns {
			isNoSum(t, fmt.Sprint("form ", rows, columns), got, ok)
			got, ok = impl.FormOf(m, drawn(14, rows))
			isNoSum(t, fmt.Sprint("form ", rows, columns), got, ok)
			return
		}
		var conjugates, product []complex64
		for k, row := range m.Rows {
			conjugates = append(conjugates, impl.ConjugateOf(x[k]))
			product = append(product, dotOf(row, x))
		}
		isSum(t, fmt.Sprint("form ", rows), got, ok, dotOf(conjugates, product))
		for _, count := range []int{0, columns - 1, columns + 1, 65} {
			got, ok := impl.FormOf(m, ones(count))
			isNoSum(t, fmt.Sprint("form with ", count), got, ok)
		}
	})
	for _, m := range wrongMatrices() {
		for _, count := range []int{0, 1, 2, 9} {
			got, ok := impl.FormOf(m, ones(count))
			isNoSum(t, fmt.Sprint("form of ", m.Rows), got, ok)
		}
	}
}
