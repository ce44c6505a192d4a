package tests

import (
	"fmt"
	"math"
	"math/cmplx"
	"testing"

	"loop.example/g01181/impl"
)

// dotTold returns the sum of the products of the conjugates of a and the numbers of b.
func dotTold(a, b []complex64) complex64 {
	var sum complex64
	for i, x := range a {
		sum = plus(sum, impl.MulComplex(complex(real(x), -imag(x)), b[i]))
	}
	return sum
}

// formTold returns the real part of the form of a matrix for a list.
func formTold(m impl.Matrix, x []complex64) float32 {
	var product []complex64
	for _, row := range m.Rows {
		product = append(product, dotOf(row, x))
	}
	return real(dotTold(x, product))
}

// leastTold returns the least power for phases, and false if there is no solution.
func leastTold(m impl.Matrix, phases []complex64) (float32, bool) {
	s := solve(m, phases)
	if !s.ok {
		return 0, false
	}
	return 1 / real(dotTold(phases, s.x)), true
}

// formWide returns the form of rows for a list, in 64-bit numbers.
func formWide(rows [][]complex64, x []complex64) complex128 {
	var form complex128
	for i, row := range rows {
		for j, y := range row {
			form += cmplx.Conj(complex128(x[i])) * complex128(y) * complex128(x[j])
		}
	}
	return form
}

// isScanned fails the test unless the powers at a direction are as told.
func isScanned(t *testing.T, m impl.Matrix, places []impl.Place, d impl.Direction) {
	t.Helper()
	what := fmt.Sprint(" of ", m.Rows, " for ", places, d)
	phases, _ := impl.SteeringOf(places, d)
	got, ok := impl.ScanPower(m, places, d)
	isPowers(t, "scan"+what, []float32{got}, ok, []float32{formTold(m, phases)})
	least, solved := leastTold(m, phases)
	got, ok = impl.LeastPower(m, places, d)
	isEqual(t, "solved"+what, ok, solved)
	isNumber(t, "least power"+what, got, least)
}

func TestScanPower(t *testing.T) {
	i := complex64(complex(0, 1))
	two := []impl.Place{{}, {X: 32}}
	cases := []struct {
		m    impl.Matrix
		d    impl.Direction
		want float32
	}{
		{matrix([]complex64{3, 0}, []complex64{0, 1}), impl.Direction{}, 4},
		{matrix([]complex64{3, 0}, []complex64{0, 1}), impl.Direction{U: 32}, 4},
		{matrix([]complex64{3, 0}, []complex64{0, 1}), impl.Direction{V: -64}, 4},
		{onesMatrix(2, 2), impl.Direction{}, 4},
		{onesMatrix(2, 2), impl.Direction{U: 32}, 2},
		{onesMatrix(2, 2), impl.Direction{U: 64}, 0},
		// The phases of the columns are those of the wave, and those of the rows their conjugates.
		{matrix([]complex64{1, -i}, []complex64{i, 1}), impl.Direction{U: 32}, 4},
		{matrix([]complex64{1, -i}, []complex64{i, 1}), impl.Direction{U: -32}, 0},
		{matrix([]complex64{0, -i}, []complex64{0, 0}), impl.Direction{U: 32}, 1},
		{matrix([]complex64{0, 0}, []complex64{-i, 0}), impl.Direction{U: 32}, -1},
		// Only the real part counts.
		{matrix([]complex64{complex(2, 7), 0}, []complex64{0, complex(-3, 9)}), impl.Direction{U: 64}, -1},
		// The products are added row by row: first those of a row, and then the rows.
		{matrix([]complex64{1e8, 1}, []complex64{-1e8, 0}), impl.Direction{}, 0},
		{matrix([]complex64{1e8, -1e8}, []complex64{1, 0}), impl.Direction{}, 1},
		{matrix([]complex64{0, 0}, []complex64{0, complex(inf32(), 0)}), impl.Direction{}, nan32()},
		{matrix([]complex64{3e38, 0}, []complex64{0, 3e38}), impl.Direction{}, inf32()},
	}
	for _, c := range cases {
		got, ok := impl.ScanPower(c.m, two, c.d)
		isPowers(t, fmt.Sprint("scan of ", c.m.Rows, c.d), []float32{got}, ok, []float32{c.want})
	}
	got, ok := impl.ScanPower(matrix([]complex64{complex(-7, 2)}), []impl.Place{{X: 99}}, impl.Direction{U: 11})
	isEqual(t, "scan of one place", ok, true)
	isNear(t, "scan of one place", complex(got, 0), -7)
}

func TestLeastPower(t *testing.T) {
	i := complex64(complex(0, 1))
	two := []impl.Place{{}, {X: 32}}
	cases := []struct {
		m    impl.Matrix
		d    impl.Direction
		want float32
	}{
		{matrix([]complex64{2, 0}, []complex64{0, 2}), impl.Direction{}, 1},
		{matrix([]complex64{2, 0}, []complex64{0, 2}), impl.Direction{U: 32}, 1},
		{matrix([]complex64{4, 0}, []complex64{0, 4}), impl.Direction{U: -64}, 2},
		{matrix([]complex64{1, 0}, []complex64{0, 0.5}), impl.Direction{}, bits32(0x3eaaaaab)},
		{matrix([]complex64{2, 1}, []complex64{1, 2}), impl.Direction{U: 64}, 0.5},
		{matrix([]complex64{2, -i}, []complex64{i, 2}), impl.Direction{U: -32}, 0.5},
		{matrix([]complex64{0, 2}, []complex64{2, 0}), impl.Direction{}, 1},
		{matrix([]complex64{-1, 0}, []complex64{0, -1}), impl.Direction{}, -0.5},
		// Only the real part counts, also if it is +0.
		{matrix([]complex64{complex(1, 1), 0}, []complex64{0, complex(1, 1)}), impl.Direction{}, 1},
		{matrix([]complex64{i, 0}, []complex64{0, i}), impl.Direction{}, inf32()},
		{matrix([]complex64{1, 0}, []complex64{0, -1}), impl.Direction{U: 32}, inf32()},
		// What is no solution of finite numbers has no finite power, but is one.
		{matrix([]complex64{1e-20, 1e30}, []complex64{0, 1e-20}), impl.Direction{}, nan32()},
	}
	for _, c := range cases {
		got, ok := impl.LeastPower(c.m, two, c.d)
		isPowers(t, fmt.Sprint("least power of ", c.m.Rows, c.d), []float32{got}, ok, []float32{c.want})
	}
}

// scanPlaces returns places of some number, of which a line, a ring and others.
func scanPlaces(count int) [][]impl.Place {
	line, _ := impl.LinePlaces(int64(count), 32)
	ring, _ := impl.RingPlaces(int64(count), 100)
	wide, _ := impl.LinePlaces(int64(count), -270)
	return [][]impl.Place{line, ring, wide, onLine(count)}
}

// Promise 8: scans and least powers have the told bits, for all sizes.
func TestScansToTheBit(t *testing.T) {
	odd := oddComplexes()
	directions := []impl.Direction{{}, {U: 64}, {U: -64}, {V: 64}, {V: -64}, {U: 32}, {U: 45, V: 45}, {U: -13, V: 60}, {U: 7, V: -3}}
	for size := 1; size <= 8; size++ {
		for k, places := range scanPlaces(size) {
			for i, d := range directions {
				seed := uint32(size*100 + k*10 + i)
				m := drawnMatrix(seed, size, size)
				isScanned(t, m, places, d)
				isScanned(t, covariance(seed, size), places, d)
				isScanned(t, wholeMatrix(seed, size), places, d)
				isScanned(t, withNumber(m, i%size, k%size, odd[int(seed)*7%len(odd)]), places, d)
			}
		}
	}
}

// Scans are nearly the forms with 64-bit parts.
func TestScansAreNearlyForms(t *testing.T) {
	for size := 1; size <= 8; size++ {
		for _, places := range scanPlaces(size) {
			for u := int64(-64); u <= 64; u += 16 {
				m, d := covariance(uint32(size+int(u)+64), size), impl.Direction{U: u}
				phases, _ := impl.SteeringOf(places, d)
				want := formWide(m.Rows, phases)
				got, ok := impl.ScanPower(m, places, d)
				isEqual(t, fmt.Sprint("scan at ", d), ok && math.Abs(float64(got)-real(want)) <= 1e-5*(1+cmplx.Abs(want)), true)
			}
		}
	}
}

// The matrix of weights and their conjugates scans what the weights receive: sums of
// phases are the same for both, where they are exact.
func TestScansArePowersOfWeights(t *testing.T) {
	line, _ := impl.LinePlaces(4, 32)
	for seed := range uint32(40) {
		weights := whole(seed, 4)
		column := impl.Matrix{}
		for _, x := range weights {
			column.Rows = append(column.Rows, []complex64{x})
		}
		adjoint, _ := impl.AdjointOf(column)
		m, _ := impl.MulMatrices(column, adjoint)
		for u := int64(-64); u <= 64; u += 32 {
			want, _ := impl.PowerAt(line, weights, impl.Direction{U: u})
			got, ok := impl.ScanPower(m, line, impl.Direction{U: u})
			isPowers(t, fmt.Sprint("scan of ", weights, u), []float32{got}, ok, []float32{want})
		}
	}
}

// Promise 8: the least power is not greater than the scan, and, for elements that
// are not alone, far less.
func TestLeastPowersAreNotGreaterThanScans(t *testing.T) {
	for size := 1; size <= 8; size++ {
		for k, places := range scanPlaces(size) {
			for seed := range uint32(12) {
				m := covariance(seed*5+uint32(k), size)
				if shots := receivedShots(int64(seed), 30, size); seed%2 == 0 {
					m, _ = impl.CovarianceOf(shots)
					m, _ = impl.LoadMatrix(m, 0.25)
				}
				isLeast(t, m, places)
			}
		}
	}
}

// isLeast fails the test if a least power is greater than the scan there, or not
// greater than 0.
func isLeast(t *testing.T, m impl.Matrix, places []impl.Place) {
	t.Helper()
	// One place has the same for both, but for the rounding of two quotients.
	count := float32(len(places))
	for v := int64(-64); v <= 64; v += 32 {
		end := int64(math.Sqrt(float64(4096 - v*v)))
		scan, one := impl.ScanCut(m, places, v, -end, end)
		least, two := impl.LeastCut(m, places, v, -end, end)
		if !one || !two || len(scan) != int(2*end+1) || len(least) != len(scan) {
			t.Fatalf("cuts of %v at %v: %v, %v powers", m.Rows, v, len(scan), len(least))
		}
		for i, power := range least {
			if !(power > 0) || !(power*count*count <= scan[i]*1.0001) || len(places) > 1 && !(power <= scan[i]) {
				t.Errorf("matrix %v, V %v, index %v: least power %v, scan %v", m.Rows, v, i, power, scan[i])
			}
		}
	}
}

func TestScanCuts(t *testing.T) {
	for size := 1; size <= 8; size++ {
		m, places := covariance(uint32(size), size), scanPlaces(size)[1]
		for v := int64(-64); v <= 64; v += 16 {
			end := int64(math.Sqrt(float64(4096 - v*v)))
			for _, ends := range [][2]int64{{-end, end}, {-end, -end}, {end, end}, {0, 0}, {0, end}, {-end, 0}} {
				var scans, leasts []float32
				for u := ends[0]; u <= ends[1]; u++ {
					phases, _ := impl.SteeringOf(places, impl.Direction{U: u, V: v})
					least, _ := leastTold(m, phases)
					scans, leasts = append(scans, formTold(m, phases)), append(leasts, least)
				}
				got, ok := impl.ScanCut(m, places, v, ends[0], ends[1])
				isPowers(t, fmt.Sprint("scan cut ", v, ends), got, ok, scans)
				got, ok = impl.LeastCut(m, places, v, ends[0], ends[1])
				isPowers(t, fmt.Sprint("least cut ", v, ends), got, ok, leasts)
			}
		}
	}
}

// Sources that are alone, also at the ends, have the greatest power where they are.
func TestScansFindASource(t *testing.T) {
	for size := 2; size <= 8; size++ {
		line, _ := impl.LinePlaces(int64(size), 31)
		for _, u := range []int64{-64, -63, -40, -1, 0, 17, 50, 63, 64} {
			shots, _ := impl.SnapshotsOf(line, []impl.Source{{From: impl.Direction{U: u}, Gain: 4, Seed: 5}}, 0.01, 3, 0, 40)
			covariance, _ := impl.CovarianceOf(shots)
			m, _ := impl.LoadMatrix(covariance, 0.01)
			scan, one := impl.ScanCut(m, line, 0, -64, 64)
			least, two := impl.LeastCut(m, line, 0, -64, 64)
			peak, three := impl.PeakOf(scan)
			sharp, four := impl.PeakOf(least)
			isEqual(t, fmt.Sprint("source found ", size, u), [4]bool{one, two, three, four}, [4]bool{true, true, true, true})
			isEqual(t, fmt.Sprint("peak of the scan ", size), peak-64, u)
			isEqual(t, fmt.Sprint("peak of the least power ", size), sharp-64, u)
		}
	}
}

// isScanRefused fails the test unless all functions for scans refuse.
func isScanRefused(t *testing.T, what string, m impl.Matrix, places []impl.Place, d impl.Direction) {
	t.Helper()
	scan, one := impl.ScanPower(m, places, d)
	least, two := impl.LeastPower(m, places, d)
	cut, three := impl.ScanCut(m, places, d.V, d.U, d.U)
	leastCut, four := impl.LeastCut(m, places, d.V, d.U, d.U)
	isEqual(t, what+" refused", [4]bool{one, two, three, four}, [4]bool{})
	isNumber(t, what+" refused", scan, 0)
	isNumber(t, what+" refused", least, 0)
	isEqual(t, what+" refused", len(cut)+len(leastCut), 0)
}

func TestScansRefuse(t *testing.T) {
	for _, m := range notSquare() {
		for count := 1; count <= 16; count++ {
			isScanRefused(t, fmt.Sprint("matrix ", m.Rows), m, onLine(count), impl.Direction{})
		}
	}
	for size := 1; size <= 8; size++ {
		unit, _ := impl.UnitMatrix(int64(size))
		for count := range 20 {
			if count != size {
				isScanRefused(t, fmt.Sprint("places ", size, count), unit, onLine(count), impl.Direction{})
			}
		}
		for _, places := range wrongPlaces() {
			isScanRefused(t, fmt.Sprint("places ", places), unit, places, impl.Direction{})
		}
		for _, d := range wrongDirections() {
			isScanRefused(t, fmt.Sprint("direction ", d), unit, onLine(size), d)
		}
	}
	for _, places := range wrongPlaces() {
		if count := len(places); count >= 1 && count <= 8 {
			unit, _ := impl.UnitMatrix(int64(count))
			isScanRefused(t, fmt.Sprint("places ", places), unit, places, impl.Direction{})
		}
	}
}

// refusedCuts returns V, from and to that are no cut.
func refusedCuts() [][3]int64 {
	refused := [][3]int64{
		{0, 1, 0}, {0, -65, 0}, {0, 0, 65}, {0, -65, 65}, {0, 65, 65}, {64, 0, 1}, {64, -1, 0}, {65, 0, 0}, {-65, 0, 0},
		{45, -45, 46}, {45, -46, 45}, {-46, -45, 45}, {5, 64, 64}, {0, 64, -64},
	}
	for _, n := range farIntegers() {
		refused = append(refused, [3]int64{n, 0, 0}, [3]int64{0, n, 0}, [3]int64{0, 0, n}, [3]int64{0, n, n}, [3]int64{n, n, n})
	}
	return refused
}

func TestScanCutsRefuse(t *testing.T) {
	unit, _ := impl.UnitMatrix(2)
	for _, r := range refusedCuts() {
		cut, ok := impl.ScanCut(unit, onLine(2), r[0], r[1], r[2])
		isPowers(t, fmt.Sprint("scan cut ", r), cut, ok, nil)
		cut, ok = impl.LeastCut(unit, onLine(2), r[0], r[1], r[2])
		isPowers(t, fmt.Sprint("least cut ", r), cut, ok, nil)
	}
}

// Matrices without solutions have scans, but no least powers.
func TestLeastPowersNeedSolutions(t *testing.T) {
	for _, m := range []impl.Matrix{
		matrix([]complex64{0, 0}, []complex64{0, 2}), onesMatrix(2, 2), onesMatrix(8, 8), matrix([]complex64{0}), matrix([]complex64{1e-30}),
		matrix([]complex64{1e30}), matrix([]complex64{complex(nan32(), 0), 0}, []complex64{0, 1}), matrix([]complex64{1, 0}, []complex64{0, complex(0, inf32())}),
	} {
		places := onLine(len(m.Rows))
		_, ok := impl.ScanPower(m, places, impl.Direction{U: 3})
		isEqual(t, fmt.Sprint("scan of ", m.Rows), ok, true)
		cut, ok := impl.ScanCut(m, places, 0, -64, 64)
		isEqual(t, fmt.Sprint("scan cut of ", m.Rows), ok && len(cut) == 129, true)
		least, ok := impl.LeastPower(m, places, impl.Direction{U: 3})
		isEqual(t, fmt.Sprint("least power of ", m.Rows), ok, false)
		isNumber(t, "no least power", least, 0)
		cut, ok = impl.LeastCut(m, places, 0, -64, 64)
		isPowers(t, fmt.Sprint("least cut of ", m.Rows), cut, ok, nil)
	}
}
