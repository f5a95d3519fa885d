package tests

import (
	"fmt"
	"math"
	"slices"
	"testing"

	"loop.example/g01076/impl"
)

var groupPrimes = []int64{2, 3, 5, 7}

func matrix(p int64, columns int64, rows ...[]int64) impl.Matrix {
	return impl.Matrix{Prime: p, Columns: columns, Rows: rows}
}

func identity(p int64, n int) impl.Matrix {
	m := matrix(p, int64(n))
	for i := range n {
		m.Rows = append(m.Rows, make([]int64, n))
		m.Rows[i][i] = 1
	}
	return m
}

func sameMatrix(a impl.Matrix, b impl.Matrix) bool {
	return a.Prime == b.Prime && a.Columns == b.Columns && slices.EqualFunc(a.Rows, b.Rows, slices.Equal[[]int64])
}

func isZero(v []int64) bool {
	return !slices.ContainsFunc(v, func(entry int64) bool { return entry != 0 })
}

func leadingIndex(v []int64) int {
	return slices.IndexFunc(v, func(entry int64) bool { return entry != 0 })
}

// isReducedForm follows the definition, for rows of any lengths and entries.
func isReducedForm(m impl.Matrix) bool {
	before := -1
	for i, row := range m.Rows {
		if int64(len(row)) != m.Columns || isZero(row) || row[leadingIndex(row)] != 1 || leadingIndex(row) <= before {
			return false
		}
		before = leadingIndex(row)
		for j, other := range m.Rows {
			if other[before] != 0 && j != i {
				return false
			}
		}
		for _, entry := range row {
			if entry < 0 || entry >= m.Prime {
				return false
			}
		}
	}
	return true
}

func vectorTimes(x []int64, a impl.Matrix) []int64 {
	sum := make([]int64, a.Columns)
	for i, row := range a.Rows {
		for j := range row {
			sum[j] = (sum[j] + x[i]*row[j]) % a.Prime
		}
	}
	return sum
}

func productBySums(a impl.Matrix, b impl.Matrix) impl.Matrix {
	m := matrix(b.Prime, b.Columns)
	for _, row := range a.Rows {
		m.Rows = append(m.Rows, vectorTimes(row, b))
	}
	return m
}

// determinantByExpansion expands along the first row.
func determinantByExpansion(p int64, rows [][]int64) int64 {
	if len(rows) == 0 {
		return 1
	}
	sum, sign := int64(0), int64(1)
	for j, entry := range rows[0] {
		if entry != 0 {
			var minor [][]int64
			for _, row := range rows[1:] {
				minor = append(minor, slices.Concat(row[:j], row[j+1:]))
			}
			sum += sign * entry * determinantByExpansion(p, minor)
		}
		sign = -sign
	}
	return residueByAdding(sum, p)
}

// vectorsBelow has the entries below the bounds, in ascending lexicographic order.
func vectorsBelow(bounds []int64) [][]int64 {
	list := [][]int64{{}}
	for _, bound := range bounds {
		var longer [][]int64
		for _, v := range list {
			for entry := range bound {
				longer = append(longer, append(slices.Clone(v), entry))
			}
		}
		list = longer
	}
	return list
}

func allVectors(p int64, n int) [][]int64 { return vectorsBelow(slices.Repeat([]int64{p}, n)) }

func rowsOfEntries(entries []int64, rows int, columns int) [][]int64 {
	var list [][]int64
	for i := range rows {
		list = append(list, slices.Clone(entries[i*columns:(i+1)*columns]))
	}
	return list
}

func allMatrices(p int64, rows int, columns int) []impl.Matrix {
	var list []impl.Matrix
	for _, entries := range allVectors(p, rows*columns) {
		list = append(list, matrix(p, int64(columns), rowsOfEntries(entries, rows, columns)...))
	}
	return list
}

func powerOf(p int64, n int) int {
	power := 1
	for range n {
		power *= int(p)
	}
	return power
}

// smallMatrices are all matrices with up to three rows and columns, of the shapes that have few enough of them.
func smallMatrices(p int64) []impl.Matrix {
	var list []impl.Matrix
	for rows := range 4 {
		for columns := range 4 {
			if powerOf(p, rows*columns) <= 2500 {
				list = append(list, allMatrices(p, rows, columns)...)
			}
		}
	}
	return list
}

// scatter gives the same entries in every run.
type scatter struct{ state uint64 }

func (s *scatter) below(n int64) int64 {
	s.state = s.state*6364136223846793005 + 1442695040888963407
	return int64(s.state>>33) % n
}

func (s *scatter) vector(p int64, n int) []int64 {
	v := make([]int64, n)
	for i := range v {
		v[i] = s.below(p)
	}
	return v
}

func (s *scatter) matrix(p int64, rows int, columns int) impl.Matrix {
	return matrix(p, int64(columns), rowsOfEntries(s.vector(p, rows*columns), rows, columns)...)
}

// sampleMatrices has matrices of every shape and of low rank too, which are rare among those with any entries.
func sampleMatrices(s *scatter, p int64) []impl.Matrix {
	var list []impl.Matrix
	for rows := range impl.MaxDim + 1 {
		for columns := range impl.MaxDim + 1 {
			list = append(list, s.matrix(p, rows, columns), productBySums(s.matrix(p, rows, 0), s.matrix(p, 0, columns)))
			for _, rank := range []int{1, 3, 6} {
				list = append(list, productBySums(s.matrix(p, rows, rank), s.matrix(p, rank, columns)))
			}
		}
	}
	return list
}

func invalidMatrices() []impl.Matrix {
	var list []impl.Matrix
	for _, p := range outsidePrimes {
		list = append(list, matrix(p, 0), matrix(p, 1, []int64{0}), identity(p, 2))
	}
	for _, p := range groupPrimes {
		for _, columns := range []int64{math.MinInt64, -1, impl.MaxDim + 1, math.MaxInt64} {
			list = append(list, matrix(p, columns), matrix(p, columns, nil), matrix(p, columns, make([]int64, impl.MaxDim+1)))
		}
		for _, entry := range []int64{math.MinInt64, -p, -1, p, p + 1, math.MaxInt64} {
			list = append(list, matrix(p, 1, []int64{entry}), matrix(p, 2, []int64{1, 0}, []int64{0, entry}), matrix(p, 2, []int64{entry, 1}, []int64{0, 1}))
		}
		list = append(list,
			matrix(p, 0, make([][]int64, impl.MaxDim+1)...), matrix(p, 1, slices.Repeat([][]int64{{1}}, impl.MaxDim+1)...), identity(p, impl.MaxDim+1),
			matrix(p, 0, []int64{0}), matrix(p, 1, nil), matrix(p, 1, []int64{0, 0}), matrix(p, 2, []int64{1, 0}, nil), matrix(p, 2, []int64{1}, []int64{0, 1}),
			matrix(p, 2, []int64{1, 0}, []int64{0, 1, 0}))
	}
	return list
}

func TestIsMatrix(t *testing.T) {
	if impl.MaxDim != 8 {
		t.Errorf("MaxDim is %d", impl.MaxDim)
	}
	s := &scatter{1}
	for _, p := range groupPrimes {
		valid := append(smallMatrices(p), sampleMatrices(s, p)...)
		valid = append(valid, matrix(p, 0, nil, []int64{}), matrix(p, impl.MaxDim, slices.Repeat([][]int64{slices.Repeat([]int64{p - 1}, impl.MaxDim)}, impl.MaxDim)...))
		for _, m := range valid {
			if !impl.IsMatrix(m) {
				t.Fatalf("IsMatrix(%v) is false", m)
			}
		}
	}
	for _, m := range append(invalidMatrices(), impl.Matrix{}) {
		if impl.IsMatrix(m) {
			t.Errorf("IsMatrix(%v) is true", m)
		}
	}
}

func TestIdentityMatrix(t *testing.T) {
	for _, p := range groupPrimes {
		for n := range impl.MaxDim + 1 {
			if m, code := impl.IdentityMatrix(p, int64(n)); !sameMatrix(m, identity(p, n)) || code != impl.ErrNone {
				t.Errorf("IdentityMatrix(%d, %d) = %v, %d", p, n, m, code)
			}
		}
		for _, n := range []int64{math.MinInt64, -1, impl.MaxDim + 1, math.MaxInt64} {
			if m, code := impl.IdentityMatrix(p, n); !sameMatrix(m, impl.Matrix{}) || code != impl.ErrRange {
				t.Errorf("IdentityMatrix(%d, %d) = %v, %d", p, n, m, code)
			}
		}
	}
	for _, p := range outsidePrimes {
		for _, n := range []int64{-1, 0, 2, impl.MaxDim + 1} {
			if m, code := impl.IdentityMatrix(p, n); !sameMatrix(m, impl.Matrix{}) || code != impl.ErrRange {
				t.Errorf("IdentityMatrix(%d, %d) = %v, %d", p, n, m, code)
			}
		}
	}
}

func TestMatrixProductIsTheSumOfRows(t *testing.T) {
	s := &scatter{2}
	for _, p := range groupPrimes {
		for _, a := range sampleMatrices(s, p) {
			b := s.matrix(p, int(a.Columns), int(s.below(impl.MaxDim+1)))
			if m, code := impl.MatrixProduct(a, b); !sameMatrix(m, productBySums(a, b)) || code != impl.ErrNone {
				t.Fatalf("MatrixProduct(%v, %v) = %v, %d", a, b, m, code)
			}
		}
	}
}

func TestProductsAreAssociative(t *testing.T) {
	s := &scatter{3}
	for _, p := range groupPrimes {
		for range 500 {
			k, l := int(s.below(impl.MaxDim+1)), int(s.below(impl.MaxDim+1))
			a, b, c := s.matrix(p, int(s.below(impl.MaxDim+1)), k), s.matrix(p, k, l), s.matrix(p, l, int(s.below(impl.MaxDim+1)))
			ab, _ := impl.MatrixProduct(a, b)
			bc, _ := impl.MatrixProduct(b, c)
			left, leftCode := impl.MatrixProduct(ab, c)
			right, rightCode := impl.MatrixProduct(a, bc)
			if !sameMatrix(left, right) || leftCode != impl.ErrNone || rightCode != impl.ErrNone {
				t.Fatalf("the products of %v, %v and %v are %v, %d and %v, %d", a, b, c, left, leftCode, right, rightCode)
			}
		}
	}
}

// An invalid matrix on either side is an error ahead of two that don't go together.
func TestMatrixProductErrors(t *testing.T) {
	for _, bad := range invalidMatrices() {
		for _, other := range []impl.Matrix{identity(2, 1), identity(5, 2), matrix(3, 0), bad} {
			for _, pair := range [][2]impl.Matrix{{bad, other}, {other, bad}} {
				if m, code := impl.MatrixProduct(pair[0], pair[1]); !sameMatrix(m, impl.Matrix{}) || code != impl.ErrInvalid {
					t.Errorf("MatrixProduct(%v, %v) = %v, %d", pair[0], pair[1], m, code)
				}
			}
		}
	}
	for _, pair := range [][2]impl.Matrix{
		{identity(2, 2), identity(3, 2)},
		{matrix(2, 0), matrix(7, 0)},
		{identity(5, 2), identity(5, 3)},
		{identity(5, 3), identity(5, 2)},
		{matrix(5, 1), matrix(5, 1)},
		{matrix(5, 0), identity(5, 1)},
		{matrix(3, 2, []int64{1, 2}), matrix(3, 2, []int64{1, 2})},
	} {
		if m, code := impl.MatrixProduct(pair[0], pair[1]); !sameMatrix(m, impl.Matrix{}) || code != impl.ErrRange {
			t.Errorf("MatrixProduct(%v, %v) = %v, %d", pair[0], pair[1], m, code)
		}
	}
}

func TestTransposeMatrix(t *testing.T) {
	s := &scatter{4}
	for _, p := range groupPrimes {
		for _, a := range append(sampleMatrices(s, p), smallMatrices(p)...) {
			want := matrix(p, int64(len(a.Rows)))
			for j := range a.Columns {
				column := []int64{}
				for _, row := range a.Rows {
					column = append(column, row[j])
				}
				want.Rows = append(want.Rows, column)
			}
			if m, code := impl.TransposeMatrix(a); !sameMatrix(m, want) || code != impl.ErrNone {
				t.Fatalf("TransposeMatrix(%v) = %v, %d", a, m, code)
			}
		}
	}
}

// checkBySearch multiplies every vector with a, and holds rows, kernel and all systems of a against these products.
func checkBySearch(t *testing.T, a impl.Matrix) {
	t.Helper()
	solutions := map[string][]int64{} // the first one of each right side is the smallest
	kernelSize := 0
	for _, x := range allVectors(a.Prime, len(a.Rows)) {
		b := vectorTimes(x, a)
		if _, known := solutions[fmt.Sprint(b)]; !known {
			solutions[fmt.Sprint(b)] = x
		}
		if isZero(b) {
			kernelSize++
		}
	}
	reduced, code := impl.ReduceRows(a)
	if reduced.Prime != a.Prime || reduced.Columns != a.Columns || !isReducedForm(reduced) || powerOf(a.Prime, len(reduced.Rows)) != len(solutions) || code != impl.ErrNone {
		t.Fatalf("ReduceRows(%v) = %v, %d", a, reduced, code)
	}
	for _, row := range reduced.Rows {
		if _, known := solutions[fmt.Sprint(row)]; !known {
			t.Fatalf("ReduceRows(%v) = %v, with a row that is no combination", a, reduced)
		}
	}
	kernel := checkKernel(t, a, len(reduced.Rows))
	if powerOf(a.Prime, len(kernel.Rows)) != kernelSize {
		t.Fatalf("LeftKernel(%v) = %v, but there are %d vectors in it", a, kernel, kernelSize)
	}
	for _, b := range allVectors(a.Prime, int(a.Columns)) {
		want, known := solutions[fmt.Sprint(b)]
		wantCode := int64(impl.ErrNone)
		if !known {
			wantCode = impl.ErrNotFound
		}
		if x, code := impl.SolveRows(a, b); !slices.Equal(x, want) || code != wantCode {
			t.Fatalf("SolveRows(%v, %v) = %v, %d, not %v", a, b, x, code, want)
		}
	}
}

// checkKernel is the promise for rank and kernel. Rows in reduced form are independent, so that nothing else is in the kernel if the dimensions add up.
func checkKernel(t *testing.T, a impl.Matrix, rank int) impl.Matrix {
	t.Helper()
	kernel, code := impl.LeftKernel(a)
	if kernel.Prime != a.Prime || kernel.Columns != int64(len(a.Rows)) || !isReducedForm(kernel) || code != impl.ErrNone {
		t.Fatalf("LeftKernel(%v) = %v, %d", a, kernel, code)
	}
	if rank+len(kernel.Rows) != len(a.Rows) {
		t.Fatalf("the rank of %v is %d and LeftKernel is %v", a, rank, kernel)
	}
	for _, x := range kernel.Rows {
		if !isZero(vectorTimes(x, a)) {
			t.Fatalf("LeftKernel(%v) = %v, with a row that is not in it", a, kernel)
		}
	}
	return kernel
}

func TestSmallMatricesBySearch(t *testing.T) {
	for _, p := range groupPrimes {
		for _, a := range smallMatrices(p) {
			checkBySearch(t, a)
		}
	}
}

// checkByProof is for matrices with too many vectors to search: it asks for the coefficients of every combination.
func checkByProof(t *testing.T, s *scatter, a impl.Matrix) {
	t.Helper()
	reduced, code := impl.ReduceRows(a)
	if reduced.Prime != a.Prime || reduced.Columns != a.Columns || !isReducedForm(reduced) || code != impl.ErrNone {
		t.Fatalf("ReduceRows(%v) = %v, %d", a, reduced, code)
	}
	for _, row := range a.Rows {
		var coefficients []int64
		for _, known := range reduced.Rows {
			coefficients = append(coefficients, row[leadingIndex(known)])
		}
		if !slices.Equal(vectorTimes(coefficients, reduced), row) {
			t.Fatalf("ReduceRows(%v) = %v, of which the row %v is no combination", a, reduced, row)
		}
	}
	kernel := checkKernel(t, a, len(reduced.Rows))
	for _, b := range append(slices.Clone(reduced.Rows), make([]int64, a.Columns), vectorTimes(s.vector(a.Prime, len(a.Rows)), a)) {
		checkSolution(t, a, kernel, b)
	}
	transpose, _ := impl.TransposeMatrix(a)
	relations, _ := impl.LeftKernel(transpose)
	for range 3 {
		checkSystem(t, a, kernel, relations, s.vector(a.Prime, int(a.Columns)))
	}
}

// checkSolution: two solutions differ first at a pivot of the kernel, so that the smallest one is 0 there.
func checkSolution(t *testing.T, a impl.Matrix, kernel impl.Matrix, b []int64) {
	t.Helper()
	x, code := impl.SolveRows(a, b)
	if len(x) != len(a.Rows) || code != impl.ErrNone || !slices.Equal(vectorTimes(x, a), b) {
		t.Fatalf("SolveRows(%v, %v) = %v, %d", a, b, x, code)
	}
	for _, row := range kernel.Rows {
		if x[leadingIndex(row)] != 0 {
			t.Fatalf("SolveRows(%v, %v) = %v is not the smallest solution", a, b, x)
		}
	}
}

// checkSystem: there is no solution exactly if a relation between the columns doesn't hold for the right side.
func checkSystem(t *testing.T, a impl.Matrix, kernel impl.Matrix, relations impl.Matrix, b []int64) {
	t.Helper()
	for _, relation := range relations.Rows {
		if sum := vectorTimes(b, matrixOfColumn(a.Prime, relation)); sum[0] != 0 {
			if x, code := impl.SolveRows(a, b); len(x) != 0 || code != impl.ErrNotFound {
				t.Fatalf("SolveRows(%v, %v) = %v, %d", a, b, x, code)
			}
			return
		}
	}
	checkSolution(t, a, kernel, b)
}

func matrixOfColumn(p int64, column []int64) impl.Matrix {
	return matrix(p, 1, rowsOfEntries(column, len(column), 1)...)
}

func TestMatricesUpToMaxDimByProof(t *testing.T) {
	s := &scatter{5}
	for _, p := range groupPrimes {
		for range 3 {
			for _, a := range sampleMatrices(s, p) {
				checkByProof(t, s, a)
			}
		}
	}
}

// checkSquare is the promise for inverses.
func checkSquare(t *testing.T, a impl.Matrix) {
	t.Helper()
	want := determinantByExpansion(a.Prime, a.Rows)
	if d, code := impl.Determinant(a); d != want || code != impl.ErrNone {
		t.Fatalf("Determinant(%v) = %d, %d, not %d", a, d, code, want)
	}
	inverse, code := impl.InverseMatrix(a)
	if want == 0 {
		if !sameMatrix(inverse, impl.Matrix{}) || code != impl.ErrNotFound {
			t.Fatalf("InverseMatrix(%v) = %v, %d", a, inverse, code)
		}
		return
	}
	one := identity(a.Prime, len(a.Rows))
	if !impl.IsMatrix(inverse) || inverse.Prime != a.Prime || inverse.Columns != a.Columns || len(inverse.Rows) != len(a.Rows) || code != impl.ErrNone {
		t.Fatalf("InverseMatrix(%v) = %v, %d", a, inverse, code)
	}
	if !sameMatrix(productBySums(a, inverse), one) || !sameMatrix(productBySums(inverse, a), one) {
		t.Fatalf("InverseMatrix(%v) = %v, which is no inverse", a, inverse)
	}
}

func TestInverseExistsExactlyIfDeterminantIsNotZero(t *testing.T) {
	s := &scatter{6}
	for _, p := range groupPrimes {
		for _, a := range smallMatrices(p) {
			if int64(len(a.Rows)) == a.Columns {
				checkSquare(t, a)
			}
		}
		for n := range impl.MaxDim + 1 {
			checkSquare(t, matrix(p, int64(n), rowsOfEntries(make([]int64, n*n), n, n)...))
			checkSquare(t, productBySums(s.matrix(p, n, max(n-1, 0)), s.matrix(p, max(n-1, 0), n)))
			for range 12 {
				checkSquare(t, s.matrix(p, n, n))
			}
		}
	}
}

// The matrices of permutations have every sign, and the determinant of a diagonal is the product of its entries.
func TestDeterminantsOfPermutedDiagonals(t *testing.T) {
	s := &scatter{7}
	for _, p := range groupPrimes {
		for range 200 {
			a, want := identity(p, impl.MaxDim), int64(1)
			for i := range a.Rows {
				a.Rows[i][i] = 1 + s.below(p-1)
				want = want * a.Rows[i][i] % p
			}
			for range s.below(12) {
				i, j := s.below(impl.MaxDim), s.below(impl.MaxDim)
				if i != j {
					a.Rows[i], a.Rows[j] = a.Rows[j], a.Rows[i]
					want = (p - want) % p
				}
			}
			if d, code := impl.Determinant(a); d != want || code != impl.ErrNone {
				t.Fatalf("Determinant(%v) = %d, %d, not %d", a, d, code, want)
			}
		}
	}
}

func TestDeterminantsMultiply(t *testing.T) {
	s := &scatter{8}
	for _, p := range groupPrimes {
		for n := range impl.MaxDim + 1 {
			for range 200 {
				checkDeterminants(t, s.matrix(p, n, n), s.matrix(p, n, n))
			}
		}
	}
	for _, p := range []int64{2, 3} {
		for _, a := range allMatrices(p, 2, 2) {
			for _, b := range allMatrices(p, 2, 2) {
				checkDeterminants(t, a, b)
			}
		}
	}
}

func checkDeterminants(t *testing.T, a impl.Matrix, b impl.Matrix) {
	t.Helper()
	product, _ := impl.MatrixProduct(a, b)
	da, _ := impl.Determinant(a)
	db, _ := impl.Determinant(b)
	if d, code := impl.Determinant(product); d != da*db%a.Prime || code != impl.ErrNone {
		t.Fatalf("the determinants of %v, %v and their product are %d, %d and %d, %d", a, b, da, db, d, code)
	}
}

// matrixResult is what a function of one matrix returns; a matrix that isn't there is the zero value.
type matrixResult struct {
	m    impl.Matrix
	code int64
}

func checkResult(t *testing.T, name string, m impl.Matrix, code int64, want matrixResult) {
	t.Helper()
	if !sameMatrix(m, want.m) || code != want.code {
		t.Errorf("%s = %v, %d, not %v, %d", name, m, code, want.m, want.code)
	}
}

// TestMatrixCases has the examples of the chapter and the edge cases that it names, as written-out results.
func TestMatrixCases(t *testing.T) {
	a := matrix(5, 2, []int64{1, 2}, []int64{3, 4})
	singular := matrix(3, 2, []int64{2, 1}, []int64{1, 2})
	all := slices.Repeat([][]int64{slices.Repeat([]int64{6}, 8)}, 8)
	for _, c := range []struct {
		a                                   impl.Matrix
		transpose, reduced, kernel, inverse matrixResult
	}{
		{a, matrixResult{matrix(5, 2, []int64{1, 3}, []int64{2, 4}), 0}, matrixResult{identity(5, 2), 0}, matrixResult{matrix(5, 2), 0}, matrixResult{matrix(5, 2, []int64{3, 1}, []int64{4, 2}), 0}},
		{singular, matrixResult{singular, 0}, matrixResult{matrix(3, 2, []int64{1, 2}), 0}, matrixResult{matrix(3, 2, []int64{1, 1}), 0}, matrixResult{impl.Matrix{}, impl.ErrNotFound}},
		{matrix(2, 1, []int64{1}, []int64{0}), matrixResult{matrix(2, 2, []int64{1, 0}), 0}, matrixResult{identity(2, 1), 0}, matrixResult{matrix(2, 2, []int64{0, 1}), 0}, matrixResult{impl.Matrix{}, impl.ErrRange}},
		{matrix(7, 0), matrixResult{matrix(7, 0), 0}, matrixResult{matrix(7, 0), 0}, matrixResult{matrix(7, 0), 0}, matrixResult{matrix(7, 0), 0}},
		{matrix(7, 2), matrixResult{matrix(7, 0, nil, nil), 0}, matrixResult{matrix(7, 2), 0}, matrixResult{matrix(7, 0), 0}, matrixResult{impl.Matrix{}, impl.ErrRange}},
		{matrix(7, 0, nil, []int64{}), matrixResult{matrix(7, 2), 0}, matrixResult{matrix(7, 0), 0}, matrixResult{identity(7, 2), 0}, matrixResult{impl.Matrix{}, impl.ErrRange}},
		{identity(5, 8), matrixResult{identity(5, 8), 0}, matrixResult{identity(5, 8), 0}, matrixResult{matrix(5, 8), 0}, matrixResult{identity(5, 8), 0}},
		{matrix(7, 8, all...), matrixResult{matrix(7, 8, all...), 0}, matrixResult{matrix(7, 8, slices.Repeat([]int64{1}, 8)), 0}, matrixResult{differences(7, 8), 0}, matrixResult{impl.Matrix{}, impl.ErrNotFound}},
		{matrix(3, 3, []int64{0, 2, 1}, []int64{0, 0, 2}), matrixResult{matrix(3, 2, []int64{0, 0}, []int64{2, 0}, []int64{1, 2}), 0}, matrixResult{matrix(3, 3, []int64{0, 1, 0}, []int64{0, 0, 1}), 0}, matrixResult{matrix(3, 2), 0}, matrixResult{impl.Matrix{}, impl.ErrRange}},
	} {
		transpose, code := impl.TransposeMatrix(c.a)
		checkResult(t, fmt.Sprintf("TransposeMatrix(%v)", c.a), transpose, code, c.transpose)
		reduced, code := impl.ReduceRows(c.a)
		checkResult(t, fmt.Sprintf("ReduceRows(%v)", c.a), reduced, code, c.reduced)
		kernel, code := impl.LeftKernel(c.a)
		checkResult(t, fmt.Sprintf("LeftKernel(%v)", c.a), kernel, code, c.kernel)
		inverse, code := impl.InverseMatrix(c.a)
		checkResult(t, fmt.Sprintf("InverseMatrix(%v)", c.a), inverse, code, c.inverse)
	}
}

// differences is the left kernel of n equal rows.
func differences(p int64, n int) impl.Matrix {
	m := identity(p, n)
	m.Rows = m.Rows[:n-1]
	for _, row := range m.Rows {
		row[n-1] = p - 1
	}
	return m
}

func TestProductCases(t *testing.T) {
	for _, c := range [][3]impl.Matrix{
		{matrix(5, 2, []int64{1, 2}, []int64{3, 4}), matrix(5, 2, []int64{0, 1}, []int64{1, 1}), matrix(5, 2, []int64{2, 3}, []int64{4, 2})},
		{matrix(7, 0), matrix(7, 0), matrix(7, 0)},
		{matrix(7, 0), matrix(7, 3), matrix(7, 3)},
		{matrix(7, 0, nil, nil), matrix(7, 3), matrix(7, 3, []int64{0, 0, 0}, []int64{0, 0, 0})},
		{matrix(7, 2), matrix(7, 0, nil, nil), matrix(7, 0)},
		{matrix(7, 1, []int64{1}, []int64{2}), matrix(7, 0, nil), matrix(7, 0, nil, nil)},
		{matrix(7, 8, slices.Repeat([]int64{6}, 8)), matrix(7, 1, slices.Repeat([][]int64{{6}}, 8)...), matrix(7, 1, []int64{1})},
		{identity(3, 8), identity(3, 8), identity(3, 8)},
	} {
		m, code := impl.MatrixProduct(c[0], c[1])
		checkResult(t, fmt.Sprintf("MatrixProduct(%v, %v)", c[0], c[1]), m, code, matrixResult{c[2], 0})
	}
}

func TestDeterminantCases(t *testing.T) {
	for _, c := range []struct {
		a       impl.Matrix
		d, code int64
	}{
		{matrix(5, 2, []int64{1, 2}, []int64{3, 4}), 3, 0},
		{matrix(2, 0), 1, 0}, {matrix(3, 0), 1, 0}, {matrix(5, 0), 1, 0}, {matrix(7, 0), 1, 0},
		{matrix(7, 1, []int64{0}), 0, 0}, {matrix(7, 1, []int64{6}), 6, 0},
		{matrix(7, 2, []int64{0, 1}, []int64{1, 0}), 6, 0},
		{matrix(7, 3, []int64{0, 1, 0}, []int64{0, 0, 1}, []int64{1, 0, 0}), 1, 0},
		{matrix(3, 2, []int64{2, 1}, []int64{1, 2}), 0, 0},
		{identity(7, 8), 1, 0},
		{matrix(7, 1), 0, impl.ErrRange}, {matrix(7, 8), 0, impl.ErrRange}, {matrix(7, 0, nil), 0, impl.ErrRange}, {matrix(7, 2, []int64{1, 0}), 0, impl.ErrRange},
	} {
		if d, code := impl.Determinant(c.a); d != c.d || code != c.code {
			t.Errorf("Determinant(%v) = %d, %d, not %d, %d", c.a, d, code, c.d, c.code)
		}
	}
}

func TestSolveCases(t *testing.T) {
	singular := matrix(3, 2, []int64{2, 1}, []int64{1, 2})
	equal := matrix(7, 8, slices.Repeat([][]int64{slices.Repeat([]int64{3}, 8)}, 8)...)
	for _, c := range []struct {
		a    impl.Matrix
		b, x []int64
		code int64
	}{
		{singular, []int64{1, 2}, []int64{0, 1}, 0},
		{singular, []int64{2, 1}, []int64{0, 2}, 0},
		{singular, []int64{0, 0}, []int64{0, 0}, 0},
		{singular, []int64{1, 1}, nil, impl.ErrNotFound},
		{matrix(5, 2, []int64{0, 0}, []int64{0, 2}, []int64{4, 0}), []int64{3, 1}, []int64{0, 3, 2}, 0},
		{matrix(2, 1, []int64{1}, []int64{1}, []int64{0}), []int64{1}, []int64{0, 1, 0}, 0},
		{matrix(7, 0), nil, nil, 0},
		{matrix(7, 2), []int64{0, 0}, nil, 0},
		{matrix(7, 2), []int64{0, 1}, nil, impl.ErrNotFound},
		{matrix(7, 0, nil, nil), []int64{}, []int64{0, 0}, 0},
		{identity(7, 8), []int64{0, 1, 2, 3, 4, 5, 6, 0}, []int64{0, 1, 2, 3, 4, 5, 6, 0}, 0},
		{equal, slices.Repeat([]int64{6}, 8), []int64{0, 0, 0, 0, 0, 0, 0, 2}, 0},
		{equal, []int64{3, 3, 3, 3, 3, 3, 3, 4}, nil, impl.ErrNotFound},
	} {
		if x, code := impl.SolveRows(c.a, c.b); !slices.Equal(x, c.x) || code != c.code {
			t.Errorf("SolveRows(%v, %v) = %v, %d, not %v, %d", c.a, c.b, x, code, c.x, c.code)
		}
	}
}

// Among the invalid matrices are some that aren't square and some without an inverse: what is invalid is an error ahead of both.
func TestInvalidMatricesAreErrors(t *testing.T) {
	for _, bad := range invalidMatrices() {
		want := matrixResult{impl.Matrix{}, impl.ErrInvalid}
		m, code := impl.TransposeMatrix(bad)
		checkResult(t, fmt.Sprintf("TransposeMatrix(%v)", bad), m, code, want)
		m, code = impl.ReduceRows(bad)
		checkResult(t, fmt.Sprintf("ReduceRows(%v)", bad), m, code, want)
		m, code = impl.InverseMatrix(bad)
		checkResult(t, fmt.Sprintf("InverseMatrix(%v)", bad), m, code, want)
		m, code = impl.LeftKernel(bad)
		checkResult(t, fmt.Sprintf("LeftKernel(%v)", bad), m, code, want)
		if d, code := impl.Determinant(bad); d != 0 || code != impl.ErrInvalid {
			t.Errorf("Determinant(%v) = %d, %d", bad, d, code)
		}
		for _, b := range append([][]int64{nil, {0}, {1}, {0, 0}, {0, 1}}, bad.Rows...) {
			if x, code := impl.SolveRows(bad, b); len(x) != 0 || code != impl.ErrInvalid {
				t.Errorf("SolveRows(%v, %v) = %v, %d", bad, b, x, code)
			}
		}
	}
}

// A singular matrix that isn't square is an error of its shape.
func TestInverseErrorsInOrder(t *testing.T) {
	for _, c := range []struct {
		a    impl.Matrix
		code int64
	}{
		{matrix(5, 2, []int64{0, 0}), impl.ErrRange},
		{matrix(5, 1, []int64{1}, []int64{2}), impl.ErrRange},
		{matrix(5, 8), impl.ErrRange},
		{matrix(5, 0, nil), impl.ErrRange},
		{matrix(5, 1, []int64{0}), impl.ErrNotFound},
		{matrix(5, 2, []int64{1, 2}, []int64{2, 4}), impl.ErrNotFound},
	} {
		m, code := impl.InverseMatrix(c.a)
		checkResult(t, fmt.Sprintf("InverseMatrix(%v)", c.a), m, code, matrixResult{impl.Matrix{}, c.code})
	}
}

// A right side that is no vector is an error ahead of a system without a solution.
func TestSolveErrorsInOrder(t *testing.T) {
	for _, p := range groupPrimes {
		for _, a := range []impl.Matrix{identity(p, 2), matrix(p, 2), matrix(p, 2, []int64{0, 0})} {
			for _, b := range [][]int64{nil, {0}, {1}, {0, 0, 0}, {1, 0, 0}, {0, -1}, {p, 0}, {1, p}, {math.MinInt64, 0}, {0, math.MaxInt64}} {
				if x, code := impl.SolveRows(a, b); len(x) != 0 || code != impl.ErrInvalid {
					t.Errorf("SolveRows(%v, %v) = %v, %d", a, b, x, code)
				}
			}
		}
		for _, b := range [][]int64{{0}, {1}} {
			if x, code := impl.SolveRows(matrix(p, 0, nil), b); len(x) != 0 || code != impl.ErrInvalid {
				t.Errorf("SolveRows over %d without columns of %v = %v, %d", p, b, x, code)
			}
		}
	}
}

// roomy copies a vector to the beginning of a longer one, whose rest must not change either.
func roomy(v []int64) []int64 {
	room := append(slices.Clone(v), 77, 78, 79, 80, 81, 82, 83, 84)
	return room[:len(v)]
}

func roomyMatrix(m impl.Matrix) impl.Matrix {
	var rows [][]int64
	for _, row := range m.Rows {
		rows = append(rows, roomy(row))
	}
	return matrix(m.Prime, m.Columns, append(rows, []int64{91}, []int64{92})[:len(rows)]...)
}

func fullVector(v []int64) []int64 { return slices.Clone(v[:cap(v)]) }

func fullMatrix(m impl.Matrix) impl.Matrix {
	full := matrix(m.Prime, m.Columns)
	for _, row := range m.Rows[:cap(m.Rows)] {
		full.Rows = append(full.Rows, fullVector(row))
	}
	return full
}

// spoil overwrites a result, row by row, and tells whether a row changed another one.
func spoil(m impl.Matrix) bool {
	for i, row := range m.Rows {
		before := fullMatrix(impl.Matrix{Rows: slices.Clip(m.Rows[i+1:])})
		for j := range row[:cap(row)] {
			row[:cap(row)][j] = -5
		}
		if !sameMatrix(fullMatrix(impl.Matrix{Rows: slices.Clip(m.Rows[i+1:])}), before) {
			return false
		}
	}
	clear(m.Rows[:cap(m.Rows)])
	return true
}

func TestMatrixArgumentsStayAndResultsAreNew(t *testing.T) {
	s := &scatter{9}
	for _, p := range groupPrimes {
		for n := range impl.MaxDim + 1 {
			for _, a := range []impl.Matrix{identity(p, n), s.matrix(p, n, n), productBySums(s.matrix(p, n, 2), s.matrix(p, 2, n))} {
				checkMemory(t, roomyMatrix(a), roomyMatrix(s.matrix(p, n, n)), roomy(vectorTimes(s.vector(p, n), a)))
			}
		}
	}
	for _, bad := range invalidMatrices() {
		checkMemory(t, roomyMatrix(bad), roomyMatrix(identity(3, 2)), roomy([]int64{0, 1}))
	}
}

func checkMemory(t *testing.T, a impl.Matrix, b impl.Matrix, v []int64) {
	t.Helper()
	for name, call := range map[string]func() (impl.Matrix, int64){
		"IdentityMatrix":  func() (impl.Matrix, int64) { return impl.IdentityMatrix(a.Prime, a.Columns) },
		"MatrixProduct":   func() (impl.Matrix, int64) { return impl.MatrixProduct(a, b) },
		"a square":        func() (impl.Matrix, int64) { return impl.MatrixProduct(a, a) },
		"TransposeMatrix": func() (impl.Matrix, int64) { return impl.TransposeMatrix(a) },
		"ReduceRows":      func() (impl.Matrix, int64) { return impl.ReduceRows(a) },
		"InverseMatrix":   func() (impl.Matrix, int64) { return impl.InverseMatrix(a) },
		"LeftKernel":      func() (impl.Matrix, int64) { return impl.LeftKernel(a) },
		"Determinant": func() (impl.Matrix, int64) {
			d, code := impl.Determinant(a)
			return matrix(d, 0), code
		},
		"SolveRows": func() (impl.Matrix, int64) {
			x, code := impl.SolveRows(a, v)
			return matrix(0, 0, x), code
		},
	} {
		checkCallMemory(t, name, call, a, b, v)
	}
}

// checkCallMemory calls twice, with the first result spoilt in between, and looks at the arguments behind their ends too.
func checkCallMemory(t *testing.T, name string, call func() (impl.Matrix, int64), a impl.Matrix, b impl.Matrix, v []int64) {
	t.Helper()
	fullA, fullB, fullV := fullMatrix(a), fullMatrix(b), fullVector(v)
	first, firstCode := call()
	copied := matrix(first.Prime, first.Columns)
	for _, row := range first.Rows {
		copied.Rows = append(copied.Rows, slices.Clone(row))
	}
	if !spoil(first) {
		t.Fatalf("%s of %v, %v, %v: two rows of the result share memory", name, a, b, v)
	}
	if !sameMatrix(fullMatrix(a), fullA) || !sameMatrix(fullMatrix(b), fullB) || !slices.Equal(fullVector(v), fullV) {
		t.Fatalf("%s: the arguments became %v, %v, %v", name, fullMatrix(a), fullMatrix(b), fullVector(v))
	}
	if second, code := call(); !sameMatrix(second, copied) || code != firstCode {
		t.Fatalf("%s of %v, %v, %v = %v, %d, and then %v, %d", name, a, b, v, copied, firstCode, second, code)
	}
}
