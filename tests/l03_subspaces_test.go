package tests

import (
	"fmt"
	"math"
	"slices"
	"testing"

	"loop.example/g01076/impl"
)

var outsideDimensions = []int64{math.MinInt64, -1, impl.MaxDim + 1, math.MaxInt64}

// rankBySweeping keeps one row for each leading index, and clears that of a row by multiplying crosswise.
func rankBySweeping(p int64, rows [][]int64) int {
	known := map[int][]int64{}
	for _, row := range rows {
		for !isZero(row) && known[leadingIndex(row)] != nil {
			at := leadingIndex(row)
			other, rest := known[at], make([]int64, len(row))
			for j := range row {
				rest[j] = residueByAdding(other[at]*row[j]-row[at]*other[j], p)
			}
			row = rest
		}
		if !isZero(row) {
			known[leadingIndex(row)] = row
		}
	}
	return len(known)
}

// numberOf is the index of a vector in allVectors.
func numberOf(p int64, v []int64) int {
	number := 0
	for _, entry := range v {
		number = number*int(p) + int(entry)
	}
	return number
}

// membersOf tells of each vector, by its number, whether it is a combination of the rows.
func membersOf(m impl.Matrix) []bool {
	members := make([]bool, powerOf(m.Prime, int(m.Columns)))
	for _, x := range allVectors(m.Prime, len(m.Rows)) {
		members[numberOf(m.Prime, vectorTimes(x, m))] = true
	}
	return members
}

// subspacesBySearch is in ascending order, as allMatrices is. Square matrices are too many to search, but only the identity matrix is in reduced form among them.
func subspacesBySearch(p int64, n int, k int) []impl.Matrix {
	if k == n {
		return []impl.Matrix{identity(p, n)}
	}
	var list []impl.Matrix
	for _, m := range allMatrices(p, k, n) {
		if isReducedForm(m) {
			list = append(list, m)
		}
	}
	return list
}

// smallSubspaces are all subspaces of the spaces of vectors of length n.
func smallSubspaces(p int64, n int) []impl.Matrix {
	var list []impl.Matrix
	for k := range n + 1 {
		list = append(list, subspacesBySearch(p, n, k)...)
	}
	return list
}

// smallLengths are short enough to search all pairs of subspaces.
func smallLengths(p int64) int {
	switch p {
	case 2:
		return 4
	case 7:
		return 2
	}
	return 3
}

// spanned is the subspace that at most MaxDim rows span.
func spanned(p int64, columns int64, rows [][]int64) impl.Matrix {
	m, _ := impl.ReduceRows(matrix(p, columns, rows...))
	return m
}

// sampleSubspaces has subspaces of every length and, mostly, every dimension.
func sampleSubspaces(s *scatter, p int64) []impl.Matrix {
	var list []impl.Matrix
	for n := range impl.MaxDim + 1 {
		for k := range n + 1 {
			list = append(list, spanned(p, int64(n), s.matrix(p, k, n).Rows))
		}
	}
	return list
}

type subspacePair struct{ u, v impl.Matrix }

// samplePairs span, mostly, a common part and a part of their own each: any two have rarely more in common than they must.
func samplePairs(s *scatter, p int64) []subspacePair {
	var list []subspacePair
	for n := range impl.MaxDim + 1 {
		for common := range n + 1 {
			for own := range n - common + 1 {
				rows := s.matrix(p, common, n).Rows
				u := spanned(p, int64(n), slices.Concat(rows, s.matrix(p, own, n).Rows))
				v := spanned(p, int64(n), slices.Concat(rows, s.matrix(p, int(s.below(int64(n-common+1))), n).Rows))
				list = append(list, subspacePair{u, v})
			}
		}
	}
	return list
}

// notReduced are valid matrices that are no subspaces.
func notReduced(p int64) []impl.Matrix {
	return []impl.Matrix{
		matrix(p, 0, nil), matrix(p, 0, []int64{}, []int64{}), matrix(p, 1, []int64{0}), matrix(p, 1, []int64{1}, []int64{0}), matrix(p, 1, []int64{1}, []int64{1}),
		matrix(p, 2, []int64{0, 0}), matrix(p, 2, []int64{0, 1}, []int64{1, 0}), matrix(p, 2, []int64{1, 1}, []int64{0, 1}), matrix(p, 2, []int64{1, 0}, []int64{1, 1}),
		matrix(p, 2, []int64{0, 0}, []int64{1, 0}), matrix(p, 2, []int64{1, 0}, []int64{0, 0}), matrix(p, 2, []int64{1, 0}, []int64{0, 1}, []int64{0, 0}),
		matrix(p, 3, []int64{1, 0, 0}, []int64{0, 1, 1}, []int64{0, 0, 1}), matrix(p, impl.MaxDim, slices.Repeat([][]int64{make([]int64, impl.MaxDim)}, impl.MaxDim)...),
	}
}

func noSubspaces() []impl.Matrix {
	list := append(invalidMatrices(), impl.Matrix{})
	for _, p := range groupPrimes {
		list = append(list, notReduced(p)...)
	}
	for _, p := range []int64{3, 5, 7} {
		list = append(list, matrix(p, 1, []int64{2}), matrix(p, 2, []int64{p - 1, 1}), matrix(p, 2, []int64{1, 0}, []int64{0, 2}))
	}
	return list
}

// otherMatrices go with each of noSubspaces, or with none of them: an error of the other kind must not come first.
func otherMatrices(bad impl.Matrix) []impl.Matrix {
	return []impl.Matrix{identity(2, 0), identity(2, 1), matrix(3, 2), identity(5, 2), identity(7, 3), bad}
}

func TestIsSubspace(t *testing.T) {
	if impl.MaxSubspaces != 200 {
		t.Errorf("MaxSubspaces is %d", impl.MaxSubspaces)
	}
	s := &scatter{31}
	for _, p := range groupPrimes {
		for _, m := range slices.Concat(smallMatrices(p), sampleMatrices(s, p), sampleSubspaces(s, p), []impl.Matrix{identity(p, impl.MaxDim)}) {
			if want := isReducedForm(m); impl.IsSubspace(m) != want {
				t.Fatalf("IsSubspace(%v) is %v", m, !want)
			}
		}
	}
	for _, m := range noSubspaces() {
		if impl.IsSubspace(m) {
			t.Errorf("IsSubspace(%v) is true", m)
		}
	}
}

// One entry decides whether a matrix is in reduced form.
func TestIsSubspaceAfterOneChange(t *testing.T) {
	s := &scatter{32}
	for _, p := range groupPrimes {
		for _, u := range sampleSubspaces(s, p) {
			for _, row := range u.Rows {
				for j := range row {
					before := row[j]
					for row[j] = range p {
						if want := isReducedForm(u); impl.IsSubspace(u) != want {
							t.Fatalf("IsSubspace(%v) is %v", u, !want)
						}
					}
					row[j] = before
				}
			}
		}
	}
}

func checkSubspace(t *testing.T, name string, m impl.Matrix, code int64, p int64, columns int64, dimension int) {
	t.Helper()
	if m.Prime != p || m.Columns != columns || len(m.Rows) != dimension || !isReducedForm(m) || !impl.IsSubspace(m) || code != impl.ErrNone {
		t.Fatalf("%s = %v, %d, which is no subspace of dimension %d", name, m, code, dimension)
	}
}

// checkMembers holds a result against a set of vectors. A space has one reduced form, so that this leaves nothing open.
func checkMembers(t *testing.T, name string, m impl.Matrix, code int64, p int64, columns int64, members []bool) {
	t.Helper()
	if m.Prime != p || m.Columns != columns || !isReducedForm(m) || code != impl.ErrNone || !slices.Equal(membersOf(m), members) {
		t.Fatalf("%s = %v, %d, which has other vectors", name, m, code)
	}
}

func sumsAndCommonMembers(p int64, n int, inU []bool, inV []bool) ([]bool, []bool) {
	sums, common := make([]bool, len(inU)), make([]bool, len(inU))
	vectors := allVectors(p, n)
	for i, x := range vectors {
		common[i] = inU[i] && inV[i]
		for j, y := range vectors {
			if inU[i] && inV[j] {
				sum := make([]int64, n)
				for at := range sum {
					sum[at] = (x[at] + y[at]) % p
				}
				sums[numberOf(p, sum)] = true
			}
		}
	}
	return sums, common
}

func TestSmallPairsBySearch(t *testing.T) {
	for _, p := range groupPrimes {
		for n := range smallLengths(p) + 1 {
			if powerOf(p, n) > 50 {
				continue // too many pairs of vectors
			}
			list := smallSubspaces(p, n)
			for _, u := range list {
				for _, v := range list {
					sums, common := sumsAndCommonMembers(p, n, membersOf(u), membersOf(v))
					sum, code := impl.SubspaceSum(u, v)
					checkMembers(t, fmt.Sprintf("SubspaceSum(%v, %v)", u, v), sum, code, p, int64(n), sums)
					both, code := impl.SubspaceIntersection(u, v)
					checkMembers(t, fmt.Sprintf("SubspaceIntersection(%v, %v)", u, v), both, code, p, int64(n), common)
				}
			}
		}
	}
}

func mustHave(t *testing.T, u impl.Matrix, vectors [][]int64) {
	t.Helper()
	for _, v := range vectors {
		if has, code := impl.HasVector(u, v); !has || code != impl.ErrNone {
			t.Fatalf("HasVector(%v, %v) = %v, %d", u, v, has, code)
		}
		if rankBySweeping(u.Prime, append(slices.Clone(u.Rows), v)) != len(u.Rows) {
			t.Fatalf("%v is not in %v", v, u)
		}
	}
}

// checkPair is the promise for dimensions. What has the right dimension and contains the right vectors is the right space.
func checkPair(t *testing.T, u impl.Matrix, v impl.Matrix) {
	t.Helper()
	rank := rankBySweeping(u.Prime, slices.Concat(u.Rows, v.Rows))
	sum, code := impl.SubspaceSum(u, v)
	checkSubspace(t, fmt.Sprintf("SubspaceSum(%v, %v)", u, v), sum, code, u.Prime, u.Columns, rank)
	mustHave(t, sum, u.Rows)
	mustHave(t, sum, v.Rows)
	both, code := impl.SubspaceIntersection(u, v)
	checkSubspace(t, fmt.Sprintf("SubspaceIntersection(%v, %v)", u, v), both, code, u.Prime, u.Columns, len(u.Rows)+len(v.Rows)-rank)
	mustHave(t, u, both.Rows)
	mustHave(t, v, both.Rows)
	if len(sum.Rows)+len(both.Rows) != len(u.Rows)+len(v.Rows) {
		t.Fatalf("the sum of %v and %v is %v, and the intersection is %v", u, v, sum, both)
	}
}

func TestDimensionsOfSumAndIntersectionAddUp(t *testing.T) {
	s := &scatter{33}
	for _, p := range groupPrimes {
		for n := range smallLengths(p) + 1 {
			list := smallSubspaces(p, n)
			for _, u := range list {
				for _, v := range list {
					checkPair(t, u, v)
				}
			}
		}
		for range 3 {
			for _, pair := range samplePairs(s, p) {
				checkPair(t, pair.u, pair.v)
				checkPair(t, pair.v, pair.u)
			}
		}
		for _, u := range sampleSubspaces(s, p) {
			checkPair(t, u, u)
			checkPair(t, u, matrix(p, u.Columns))
			checkPair(t, identity(p, int(u.Columns)), u)
		}
	}
}

func TestHasVector(t *testing.T) {
	s := &scatter{34}
	for _, p := range groupPrimes {
		for n := range smallLengths(p) + 1 {
			for _, u := range smallSubspaces(p, n) {
				members := membersOf(u)
				for i, v := range allVectors(p, n) {
					if has, code := impl.HasVector(u, v); has != members[i] || code != impl.ErrNone {
						t.Fatalf("HasVector(%v, %v) = %v, %d", u, v, has, code)
					}
				}
			}
		}
		for _, u := range sampleSubspaces(s, p) {
			mustHave(t, u, append(slices.Clone(u.Rows), make([]int64, u.Columns), vectorTimes(s.vector(p, len(u.Rows)), u)))
			for range 5 {
				v := s.vector(p, int(u.Columns))
				want := rankBySweeping(p, append(slices.Clone(u.Rows), v)) == len(u.Rows)
				if has, code := impl.HasVector(u, v); has != want || code != impl.ErrNone {
					t.Fatalf("HasVector(%v, %v) = %v, %d", u, v, has, code)
				}
			}
		}
	}
}

func scalarProduct(p int64, x []int64, y []int64) int64 {
	sum := int64(0)
	for i := range x {
		sum += x[i] * y[i]
	}
	return sum % p
}

func checkAnnihilator(t *testing.T, u impl.Matrix) {
	t.Helper()
	m, code := impl.Annihilator(u)
	checkSubspace(t, fmt.Sprintf("Annihilator(%v)", u), m, code, u.Prime, u.Columns, int(u.Columns)-len(u.Rows))
	for _, x := range m.Rows {
		for _, y := range u.Rows {
			if scalarProduct(u.Prime, x, y) != 0 {
				t.Fatalf("Annihilator(%v) = %v, of which %v is no element", u, m, x)
			}
		}
	}
	if twice, code := impl.Annihilator(m); !sameMatrix(twice, u) || code != impl.ErrNone {
		t.Fatalf("Annihilator(%v) = %v, %d, not %v", m, twice, code, u)
	}
}

func checkComplement(t *testing.T, u impl.Matrix) {
	t.Helper()
	want := matrix(u.Prime, u.Columns)
	for j, unit := range identity(u.Prime, int(u.Columns)).Rows {
		if !slices.ContainsFunc(u.Rows, func(row []int64) bool { return leadingIndex(row) == j }) {
			want.Rows = append(want.Rows, unit)
		}
	}
	m, code := impl.StandardComplement(u)
	checkSubspace(t, fmt.Sprintf("StandardComplement(%v)", u), m, code, u.Prime, u.Columns, int(u.Columns)-len(u.Rows))
	if !sameMatrix(m, want) {
		t.Fatalf("StandardComplement(%v) = %v, not %v", u, m, want)
	}
	if rankBySweeping(u.Prime, slices.Concat(u.Rows, m.Rows)) != int(u.Columns) {
		t.Fatalf("StandardComplement(%v) = %v, and their sum is not everything", u, m)
	}
}

func TestAnnihilatorAndComplement(t *testing.T) {
	s := &scatter{35}
	for _, p := range groupPrimes {
		for n := range smallLengths(p) + 1 {
			for _, u := range smallSubspaces(p, n) {
				checkAnnihilator(t, u)
				checkComplement(t, u)
			}
		}
		for range 5 {
			for _, u := range sampleSubspaces(s, p) {
				checkAnnihilator(t, u)
				checkComplement(t, u)
			}
		}
	}
}

// checkMaps is for short vectors: it maps all of them.
func checkMaps(t *testing.T, u impl.Matrix, a impl.Matrix) {
	t.Helper()
	if u.Columns == int64(len(a.Rows)) {
		images := make([]bool, powerOf(u.Prime, int(a.Columns)))
		for _, x := range allVectors(u.Prime, len(u.Rows)) {
			images[numberOf(u.Prime, vectorTimes(vectorTimes(x, u), a))] = true
		}
		m, code := impl.ImageSubspace(u, a)
		checkMembers(t, fmt.Sprintf("ImageSubspace(%v, %v)", u, a), m, code, u.Prime, a.Columns, images)
	}
	if u.Columns == a.Columns {
		var preimages []bool
		members := membersOf(u)
		for _, x := range allVectors(u.Prime, len(a.Rows)) {
			preimages = append(preimages, members[numberOf(u.Prime, vectorTimes(x, a))])
		}
		m, code := impl.PreimageSubspace(u, a)
		checkMembers(t, fmt.Sprintf("PreimageSubspace(%v, %v)", u, a), m, code, u.Prime, int64(len(a.Rows)), preimages)
	}
}

func TestSmallMapsBySearch(t *testing.T) {
	for _, p := range groupPrimes {
		var subspaces [4][]impl.Matrix
		for n := range subspaces {
			subspaces[n] = smallSubspaces(p, n)
		}
		for _, a := range smallMatrices(p) {
			if powerOf(p, len(a.Rows)*int(a.Columns)) > 700 {
				continue
			}
			for n := range 4 {
				if n == len(a.Rows) || int64(n) == a.Columns {
					for _, u := range subspaces[n] {
						checkMaps(t, u, a)
					}
				}
			}
		}
	}
}

// Vectors that are mapped into u are as many as those that are mapped to zero, for each vector that u and the image of a have in common.
func TestMapsUpToMaxDim(t *testing.T) {
	s := &scatter{36}
	for _, p := range groupPrimes {
		for _, a := range sampleMatrices(s, p) {
			rows := len(a.Rows)
			u := spanned(p, int64(rows), s.matrix(p, int(s.below(int64(rows+1))), rows).Rows)
			images := productBySums(u, a)
			m, code := impl.ImageSubspace(u, a)
			checkSubspace(t, fmt.Sprintf("ImageSubspace(%v, %v)", u, a), m, code, p, a.Columns, rankBySweeping(p, images.Rows))
			mustHave(t, m, images.Rows)
			own := spanned(p, a.Columns, s.matrix(p, int(s.below(a.Columns+1)), int(a.Columns)).Rows)
			sum, _ := impl.SubspaceSum(m, own)
			for _, v := range []impl.Matrix{m, own, sum, matrix(p, a.Columns)} {
				x, code := impl.PreimageSubspace(v, a)
				dimension := rows + len(v.Rows) - rankBySweeping(p, slices.Concat(v.Rows, a.Rows))
				checkSubspace(t, fmt.Sprintf("PreimageSubspace(%v, %v)", v, a), x, code, p, int64(rows), dimension)
				mustHave(t, v, productBySums(x, a).Rows)
			}
		}
	}
}

// countByRecurrence: the first column has a pivot, and the other columns of the first row are free up to the pivots behind, or it is zero.
func countByRecurrence(p int64, n int, k int) int64 {
	if k == 0 || k == n {
		return 1
	}
	return countByRecurrence(p, n-1, k) + int64(powerOf(p, n-k))*countByRecurrence(p, n-1, k-1)
}

func TestCountSubspaces(t *testing.T) {
	for _, c := range [][4]int64{
		{2, 4, 2, 35}, {2, 0, 0, 1}, {7, 0, 0, 1}, {3, 8, 0, 1}, {3, 8, 8, 1}, {5, 1, 1, 1}, {2, 8, 1, 255}, {2, 8, 4, 200787}, {3, 4, 2, 130},
		{5, 4, 1, 156}, {5, 4, 2, 806}, {7, 2, 1, 8}, {7, 8, 3, 5670690600800}, {7, 8, 4, 39709010932102},
	} {
		if count, code := impl.CountSubspaces(c[0], c[1], c[2]); count != c[3] || code != impl.ErrNone {
			t.Errorf("CountSubspaces(%d, %d, %d) = %d, %d, not %d", c[0], c[1], c[2], count, code, c[3])
		}
	}
	for _, p := range groupPrimes {
		for n := range impl.MaxDim + 1 {
			for k := range n + 1 {
				want := countByRecurrence(p, n, k)
				if count, code := impl.CountSubspaces(p, int64(n), int64(k)); count != want || code != impl.ErrNone {
					t.Errorf("CountSubspaces(%d, %d, %d) = %d, %d, not %d", p, n, k, count, code, want)
				}
			}
		}
	}
}

func entriesOf(m impl.Matrix) []int64 { return slices.Concat(m.Rows...) }

// checkList is the promise for lists. In strictly ascending order each subspace is there once, and none is left out if they are as many as there are.
func checkList(t *testing.T, p int64, n int, k int) {
	t.Helper()
	list, code := impl.AllSubspaces(p, int64(n), int64(k))
	count := countByRecurrence(p, n, k)
	if count > impl.MaxSubspaces {
		if len(list) != 0 || code != impl.ErrLimit {
			t.Errorf("AllSubspaces(%d, %d, %d) = %v, %d, but there are %d", p, n, k, list, code, count)
		}
		return
	}
	if int64(len(list)) != count || code != impl.ErrNone {
		t.Fatalf("AllSubspaces(%d, %d, %d) = %v, %d, but there are %d", p, n, k, list, code, count)
	}
	for i, u := range list {
		checkSubspace(t, fmt.Sprintf("element %d of AllSubspaces(%d, %d, %d)", i, p, n, k), u, code, p, int64(n), k)
		if i > 0 && slices.Compare(entriesOf(list[i-1]), entriesOf(u)) >= 0 {
			t.Fatalf("AllSubspaces(%d, %d, %d) has %v ahead of %v", p, n, k, list[i-1], u)
		}
	}
}

func TestAllSubspacesHasEachOnceUpToMaxSubspaces(t *testing.T) {
	for _, p := range groupPrimes {
		for n := range impl.MaxDim + 1 {
			for k := range n + 1 {
				checkList(t, p, n, k)
			}
		}
	}
}

func TestAllSubspacesBySearch(t *testing.T) {
	for _, p := range groupPrimes {
		for n := range 5 {
			for k := range n + 1 {
				if powerOf(p, n*k) > 70000 || countByRecurrence(p, n, k) > impl.MaxSubspaces {
					continue
				}
				want := subspacesBySearch(p, n, k)
				if list, code := impl.AllSubspaces(p, int64(n), int64(k)); !slices.EqualFunc(list, want, sameMatrix) || code != impl.ErrNone {
					t.Errorf("AllSubspaces(%d, %d, %d) = %v, %d, not %v", p, n, k, list, code, want)
				}
			}
		}
	}
}

func TestAllSubspacesCases(t *testing.T) {
	for _, c := range []struct {
		p, n, k int64
		list    []impl.Matrix
	}{
		{2, 2, 1, []impl.Matrix{matrix(2, 2, []int64{0, 1}), matrix(2, 2, []int64{1, 0}), matrix(2, 2, []int64{1, 1})}},
		{7, 0, 0, []impl.Matrix{matrix(7, 0)}},
		{7, 8, 0, []impl.Matrix{matrix(7, 8)}},
		{7, 8, 8, []impl.Matrix{identity(7, 8)}},
		{5, 1, 1, []impl.Matrix{identity(5, 1)}},
		{3, 2, 1, []impl.Matrix{matrix(3, 2, []int64{0, 1}), matrix(3, 2, []int64{1, 0}), matrix(3, 2, []int64{1, 1}), matrix(3, 2, []int64{1, 2})}},
		{2, 3, 2, []impl.Matrix{ // pivots 1 and 2, then 0 and 2 and 0 and 1 by turns
			matrix(2, 3, []int64{0, 1, 0}, []int64{0, 0, 1}), matrix(2, 3, []int64{1, 0, 0}, []int64{0, 0, 1}), matrix(2, 3, []int64{1, 0, 0}, []int64{0, 1, 0}),
			matrix(2, 3, []int64{1, 0, 0}, []int64{0, 1, 1}), matrix(2, 3, []int64{1, 0, 1}, []int64{0, 1, 0}), matrix(2, 3, []int64{1, 0, 1}, []int64{0, 1, 1}),
			matrix(2, 3, []int64{1, 1, 0}, []int64{0, 0, 1})}},
	} {
		if list, code := impl.AllSubspaces(c.p, c.n, c.k); !slices.EqualFunc(list, c.list, sameMatrix) || code != impl.ErrNone {
			t.Errorf("AllSubspaces(%d, %d, %d) = %v, %d, not %v", c.p, c.n, c.k, list, code, c.list)
		}
	}
}

// Arguments out of their ranges are an error ahead of a list that is too long.
func TestCountAndListErrors(t *testing.T) {
	var wrong [][3]int64
	for _, p := range outsidePrimes {
		wrong = append(wrong, [3]int64{p, 0, 0}, [3]int64{p, 2, 1}, [3]int64{p, impl.MaxDim, 4}, [3]int64{p, 2, 3})
	}
	for _, p := range groupPrimes {
		for _, n := range outsideDimensions {
			for _, k := range []int64{math.MinInt64, -1, 0, 4, n, math.MaxInt64} {
				wrong = append(wrong, [3]int64{p, n, k})
			}
		}
		for n := range int64(impl.MaxDim + 1) {
			for _, k := range []int64{math.MinInt64, -1, n + 1, n + 2, impl.MaxDim + 1, math.MaxInt64} {
				wrong = append(wrong, [3]int64{p, n, k})
			}
		}
	}
	for _, w := range wrong {
		if count, code := impl.CountSubspaces(w[0], w[1], w[2]); count != 0 || code != impl.ErrRange {
			t.Errorf("CountSubspaces(%d, %d, %d) = %d, %d", w[0], w[1], w[2], count, code)
		}
		if list, code := impl.AllSubspaces(w[0], w[1], w[2]); len(list) != 0 || code != impl.ErrRange {
			t.Errorf("AllSubspaces(%d, %d, %d) = %v, %d", w[0], w[1], w[2], list, code)
		}
	}
}

// TestSubspaceCases has the examples of the chapter and spaces without vectors but zero, as written-out results.
func TestSubspaceCases(t *testing.T) {
	u, v := matrix(2, 3, []int64{1, 0, 1}, []int64{0, 1, 1}), matrix(2, 3, []int64{1, 0, 0}, []int64{0, 1, 0})
	sum, code := impl.SubspaceSum(matrix(2, 3, []int64{1, 0, 1}), matrix(2, 3, []int64{0, 1, 1}))
	checkResult(t, "a sum of lines", sum, code, matrixResult{u, 0})
	sum, code = impl.SubspaceSum(u, v)
	checkResult(t, "a sum of planes", sum, code, matrixResult{identity(2, 3), 0})
	both, code := impl.SubspaceIntersection(u, v)
	checkResult(t, "an intersection", both, code, matrixResult{matrix(2, 3, []int64{1, 1, 0}), 0})
	m, code := impl.Annihilator(u)
	checkResult(t, "an annihilator", m, code, matrixResult{matrix(2, 3, []int64{1, 1, 1}), 0})
	m, code = impl.StandardComplement(matrix(3, 2, []int64{1, 2}))
	checkResult(t, "a complement", m, code, matrixResult{matrix(3, 2, []int64{0, 1}), 0})
	m, code = impl.ImageSubspace(matrix(5, 2, []int64{1, 0}), matrix(5, 2, []int64{1, 2}, []int64{3, 4}))
	checkResult(t, "an image", m, code, matrixResult{matrix(5, 2, []int64{1, 2}), 0})
	m, code = impl.PreimageSubspace(matrix(3, 2), matrix(3, 2, []int64{2, 1}, []int64{1, 2}))
	checkResult(t, "a preimage", m, code, matrixResult{matrix(3, 2, []int64{1, 1}), 0})
	m, code = impl.Annihilator(matrix(7, 8))
	checkResult(t, "what annihilates zero", m, code, matrixResult{identity(7, 8), 0})
	m, code = impl.Annihilator(identity(7, 8))
	checkResult(t, "what annihilates everything", m, code, matrixResult{matrix(7, 8), 0})
	m, code = impl.ImageSubspace(matrix(7, 0), matrix(7, 3))
	checkResult(t, "an image without rows", m, code, matrixResult{matrix(7, 3), 0})
	m, code = impl.ImageSubspace(identity(7, 2), matrix(7, 0, nil, nil))
	checkResult(t, "an image without columns", m, code, matrixResult{matrix(7, 0), 0})
	m, code = impl.PreimageSubspace(matrix(7, 0), matrix(7, 0, nil, nil))
	checkResult(t, "a preimage without columns", m, code, matrixResult{identity(7, 2), 0})
	m, code = impl.PreimageSubspace(identity(7, 3), matrix(7, 3))
	checkResult(t, "a preimage without rows", m, code, matrixResult{matrix(7, 0), 0})
	if !impl.IsSubspace(matrix(3, 2, []int64{1, 2})) || !impl.IsSubspace(matrix(3, 0)) || impl.IsSubspace(matrix(3, 2, []int64{2, 1})) {
		t.Error("IsSubspace is wrong")
	}
	if has, code := impl.HasVector(matrix(3, 2, []int64{1, 2}), []int64{2, 1}); !has || code != impl.ErrNone {
		t.Errorf("HasVector = %v, %d", has, code)
	}
	if has, code := impl.HasVector(matrix(7, 0), nil); !has || code != impl.ErrNone {
		t.Errorf("HasVector of the empty vector = %v, %d", has, code)
	}
}

type pairFunction struct {
	name string
	call func(impl.Matrix, impl.Matrix) (impl.Matrix, int64)
}

func checkPairErrors(t *testing.T, functions []pairFunction, u impl.Matrix, v impl.Matrix, want int64) {
	t.Helper()
	for _, f := range functions {
		m, code := f.call(u, v)
		checkResult(t, fmt.Sprintf("%s(%v, %v)", f.name, u, v), m, code, matrixResult{impl.Matrix{}, want})
	}
}

// What is no subspace, on either side, is an error ahead of two that don't fit.
func TestSubspaceErrorsInOrder(t *testing.T) {
	pairs := []pairFunction{{"SubspaceSum", impl.SubspaceSum}, {"SubspaceIntersection", impl.SubspaceIntersection}}
	maps := []pairFunction{{"ImageSubspace", impl.ImageSubspace}, {"PreimageSubspace", impl.PreimageSubspace}}
	for _, bad := range noSubspaces() {
		for _, other := range otherMatrices(bad) {
			checkPairErrors(t, pairs, bad, other, impl.ErrInvalid)
			checkPairErrors(t, pairs, other, bad, impl.ErrInvalid)
			checkPairErrors(t, maps, bad, other, impl.ErrInvalid)
		}
		m, code := impl.Annihilator(bad)
		checkResult(t, fmt.Sprintf("Annihilator(%v)", bad), m, code, matrixResult{impl.Matrix{}, impl.ErrInvalid})
		m, code = impl.StandardComplement(bad)
		checkResult(t, fmt.Sprintf("StandardComplement(%v)", bad), m, code, matrixResult{impl.Matrix{}, impl.ErrInvalid})
	}
	for _, bad := range append(invalidMatrices(), impl.Matrix{}) {
		for _, other := range otherMatrices(bad) {
			checkPairErrors(t, maps, other, bad, impl.ErrInvalid)
		}
	}
	for _, pair := range []subspacePair{
		{identity(2, 2), identity(3, 2)}, {matrix(2, 0), matrix(7, 0)}, {identity(5, 2), identity(5, 3)}, {matrix(5, 3), matrix(5, 0)}, {matrix(5, 8), identity(7, 7)},
	} {
		checkPairErrors(t, slices.Concat(pairs, maps), pair.u, pair.v, impl.ErrRange)
	}
}

// A matrix that is mapped by need not be in reduced form nor square, and its rows and columns are not taken for each other.
func TestMapShapes(t *testing.T) {
	for _, p := range groupPrimes {
		wide, tall := matrix(p, 2, []int64{0, 0}), matrix(p, 1, []int64{0}, []int64{0})
		m, code := impl.ImageSubspace(identity(p, 1), wide)
		checkResult(t, "the image by one row", m, code, matrixResult{matrix(p, 2), 0})
		m, code = impl.ImageSubspace(identity(p, 2), wide)
		checkResult(t, "the image by too few rows", m, code, matrixResult{impl.Matrix{}, impl.ErrRange})
		m, code = impl.ImageSubspace(identity(p, 1), tall)
		checkResult(t, "the image by too many rows", m, code, matrixResult{impl.Matrix{}, impl.ErrRange})
		m, code = impl.PreimageSubspace(identity(p, 2), wide)
		checkResult(t, "the preimage by one row", m, code, matrixResult{identity(p, 1), 0})
		m, code = impl.PreimageSubspace(identity(p, 1), wide)
		checkResult(t, "the preimage by too many columns", m, code, matrixResult{impl.Matrix{}, impl.ErrRange})
		m, code = impl.PreimageSubspace(identity(p, 2), tall)
		checkResult(t, "the preimage by too few columns", m, code, matrixResult{impl.Matrix{}, impl.ErrRange})
	}
}

func TestHasVectorErrors(t *testing.T) {
	for _, bad := range noSubspaces() {
		for _, v := range append([][]int64{nil, {0}, {0, 0}, {0, 1}, {-1}}, bad.Rows...) {
			if has, code := impl.HasVector(bad, v); has || code != impl.ErrInvalid {
				t.Errorf("HasVector(%v, %v) = %v, %d", bad, v, has, code)
			}
		}
	}
	for _, p := range groupPrimes {
		for _, u := range []impl.Matrix{matrix(p, 2), matrix(p, 2, []int64{1, 0}), identity(p, 2)} {
			for _, v := range [][]int64{nil, {0}, {0, 0, 0}, {0, -1}, {p, 0}, {0, p}, {math.MinInt64, 0}, {0, math.MaxInt64}} {
				if has, code := impl.HasVector(u, v); has || code != impl.ErrInvalid {
					t.Errorf("HasVector(%v, %v) = %v, %d", u, v, has, code)
				}
			}
		}
		if has, code := impl.HasVector(matrix(p, 0), []int64{0}); has || code != impl.ErrInvalid {
			t.Errorf("HasVector over %d of a vector that is too long = %v, %d", p, has, code)
		}
	}
}

func checkSubspaceMemory(t *testing.T, a impl.Matrix, b impl.Matrix, v []int64) {
	t.Helper()
	for name, call := range map[string]func() (impl.Matrix, int64){
		"SubspaceSum":                 func() (impl.Matrix, int64) { return impl.SubspaceSum(a, b) },
		"a sum with itself":           func() (impl.Matrix, int64) { return impl.SubspaceSum(a, a) },
		"SubspaceIntersection":        func() (impl.Matrix, int64) { return impl.SubspaceIntersection(a, b) },
		"an intersection with itself": func() (impl.Matrix, int64) { return impl.SubspaceIntersection(a, a) },
		"Annihilator":                 func() (impl.Matrix, int64) { return impl.Annihilator(a) },
		"StandardComplement":          func() (impl.Matrix, int64) { return impl.StandardComplement(a) },
		"ImageSubspace":               func() (impl.Matrix, int64) { return impl.ImageSubspace(a, b) },
		"an image by itself":          func() (impl.Matrix, int64) { return impl.ImageSubspace(a, a) },
		"PreimageSubspace":            func() (impl.Matrix, int64) { return impl.PreimageSubspace(a, b) },
		"a preimage by itself":        func() (impl.Matrix, int64) { return impl.PreimageSubspace(a, a) },
		"IsSubspace": func() (impl.Matrix, int64) {
			return impl.Matrix{}, int64(len(fmt.Sprint(impl.IsSubspace(a))))
		},
		"HasVector": func() (impl.Matrix, int64) {
			has, code := impl.HasVector(a, v)
			return matrix(int64(len(fmt.Sprint(has))), 0), code
		},
	} {
		checkCallMemory(t, name, call, a, b, v)
	}
}

func TestSubspaceArgumentsStayAndResultsAreNew(t *testing.T) {
	s := &scatter{37}
	for _, p := range groupPrimes {
		for _, pair := range samplePairs(s, p) {
			v := roomy(vectorTimes(s.vector(p, len(pair.u.Rows)), pair.u))
			checkSubspaceMemory(t, roomyMatrix(pair.u), roomyMatrix(pair.v), v)
			checkSubspaceMemory(t, roomyMatrix(pair.u), roomyMatrix(s.matrix(p, int(pair.u.Columns), int(pair.u.Columns))), v)
			checkSubspaceMemory(t, roomyMatrix(identity(p, int(pair.u.Columns))), roomyMatrix(pair.u), v)
		}
	}
	for _, bad := range noSubspaces() {
		checkSubspaceMemory(t, roomyMatrix(bad), roomyMatrix(identity(3, 2)), roomy([]int64{0, 1}))
	}
}

func TestListedSubspacesAreNew(t *testing.T) {
	for _, c := range [][3]int64{{2, 4, 2}, {3, 4, 2}, {5, 3, 1}, {7, 8, 8}, {7, 8, 0}, {2, 5, 3}} {
		list, _ := impl.AllSubspaces(c[0], c[1], c[2])
		for i, u := range list {
			var behind []int64
			for _, v := range list[i+1:] {
				behind = append(behind, entriesOf(fullMatrix(v))...)
			}
			if !spoil(u) {
				t.Fatalf("two rows of element %d of the list for %v share memory", i, c)
			}
			var after []int64
			for _, v := range list[i+1:] {
				after = append(after, entriesOf(fullMatrix(v))...)
			}
			if !slices.Equal(behind, after) {
				t.Fatalf("element %d of the list for %v shares memory with a later one", i, c)
			}
		}
		checkList(t, c[0], int(c[1]), int(c[2]))
	}
}
