package tests

import (
	"fmt"
	"math"
	"slices"
	"testing"

	"loop.example/g01076/impl"
)

func table(columns int64, rows ...[]int64) impl.Table {
	return impl.Table{Columns: columns, Rows: rows}
}

func unitTable(n int) impl.Table { return table(int64(n), identity(2, n).Rows...) }

func diagonalTable(rows int, columns int, d ...int64) impl.Table {
	a := table(int64(columns), rowsOfEntries(make([]int64, rows*columns), rows, columns)...)
	for i, number := range d {
		a.Rows[i][i] = number
	}
	return a
}

func sameRows(a [][]int64, b [][]int64) bool { return slices.EqualFunc(a, b, slices.Equal[[]int64]) }

func isTableEntry(entry int64) bool { return -impl.MaxEntry <= entry && entry <= impl.MaxEntry }

func haveTableEntries(rows [][]int64) bool {
	return !slices.ContainsFunc(slices.Concat(rows...), func(entry int64) bool { return !isTableEntry(entry) })
}

// gcdOf is fast where divisorByTrial isn't.
func gcdOf(a int64, b int64) int64 {
	for b != 0 {
		a, b = b, a%b
	}
	return max(a, -a)
}

// determinantBySweeping divides by the pivot before, which leaves no remainder.
func determinantBySweeping(rows [][]int64) int64 {
	var m [][]int64
	for _, row := range rows {
		m = append(m, slices.Clone(row))
	}
	result, before := int64(1), int64(1)
	for k := range m {
		at := slices.IndexFunc(m[k:], func(row []int64) bool { return row[k] != 0 }) + k
		if at < k {
			return 0
		}
		if at > k {
			m[k], m[at] = m[at], m[k]
			result = -result
		}
		for _, row := range m[k+1:] {
			for j := k + 1; j < len(m); j++ {
				row[j] = (row[j]*m[k][k] - row[k]*m[k][j]) / before
			}
		}
		before = m[k][k]
	}
	return result * before
}

// choicesOf are the lists of k of the indices from first to n - 1.
func choicesOf(first int, n int, k int) [][]int {
	if k == 0 {
		return [][]int{{}}
	}
	var list [][]int
	for i := first; i < n; i++ {
		for _, rest := range choicesOf(i+1, n, k-1) {
			list = append(list, append([]int{i}, rest...))
		}
	}
	return list
}

// divisorInColumns is the greatest common divisor of the minors with all these columns.
func divisorInColumns(rows [][]int64, columns []int) int64 {
	divisor := int64(0)
	for _, indices := range choicesOf(0, len(rows), len(columns)) {
		var part [][]int64
		for _, i := range indices {
			var row []int64
			for _, j := range columns {
				row = append(row, rows[i][j])
			}
			part = append(part, row)
		}
		divisor = gcdOf(divisor, determinantBySweeping(part))
	}
	return divisor
}

func divisorByMinors(rows [][]int64, columns int64, k int) int64 {
	divisor := int64(0)
	for _, chosen := range choicesOf(0, int(columns), k) {
		divisor = gcdOf(divisor, divisorInColumns(rows, chosen))
	}
	return divisor
}

// signed gives entries in -bound..bound.
func (s *scatter) signed(bound int64) int64 { return s.below(2*bound+1) - bound }

func (s *scatter) table(rows int, columns int, bound int64) impl.Table {
	a := diagonalTable(rows, columns)
	for _, row := range a.Rows {
		for j := range row {
			row[j] = s.signed(bound)
		}
	}
	return a
}

func timesRows(x []int64, rows [][]int64, columns int64) []int64 {
	sum := make([]int64, columns)
	for i, row := range rows {
		for j := range row {
			sum[j] += x[i] * row[j]
		}
	}
	return sum
}

func timesTable(a [][]int64, b impl.Table) [][]int64 {
	var product [][]int64
	for _, row := range a {
		product = append(product, timesRows(row, b.Rows, b.Columns))
	}
	return product
}

// smallTables are all tables of some shapes with entries close to 0.
func smallTables() []impl.Table {
	var list []impl.Table
	for _, shape := range [][3]int{{0, 1, 1}, {0, 4, 1}, {1, 1, 64}, {2, 1, 5}, {3, 1, 3}, {1, 2, 5}, {1, 3, 2}, {1, 4, 1}, {2, 2, 3}, {3, 2, 1}, {2, 3, 1}, {2, 4, 0}} {
		rows, columns, bound := shape[0], shape[1], int64(shape[2])
		for _, entries := range allVectors(2*bound+1, rows*columns) {
			for i := range entries {
				entries[i] -= bound
			}
			list = append(list, table(int64(columns), rowsOfEntries(entries, rows, columns)...))
		}
	}
	return list
}

// sampleTables has tables of every shape, with close and distant entries, with extreme ones alone, with a common divisor and with a low rank.
func sampleTables(s *scatter) []impl.Table {
	var list []impl.Table
	for rows := range impl.MaxRows + 1 {
		for columns := 1; columns <= impl.MaxColumns; columns++ {
			list = append(list, s.table(rows, columns, 2), s.table(rows, columns, 10), s.table(rows, columns, impl.MaxEntry))
			extreme, common := s.table(rows, columns, 1), s.table(rows, columns, 10)
			for i := range extreme.Rows {
				for j := range extreme.Rows[i] {
					extreme.Rows[i][j] = impl.MaxEntry - 127*s.below(2) - s.below(2)
					common.Rows[i][j] *= 6
				}
			}
			list = append(list, extreme, common)
			for rank := 1; rank < min(rows, columns); rank++ {
				low := timesTable(s.table(rows, rank, 3).Rows, s.table(rank, columns, impl.MaxEntry/9))
				list = append(list, table(int64(columns), low...))
			}
		}
	}
	return list
}

// steepTables have entries in the Hermite form, or numbers on the way to it, that are as large as could be found.
func steepTables() []impl.Table {
	return []impl.Table{
		table(4, []int64{64, -64, -63, -58}, []int64{-63, 64, -64, -19}, []int64{-63, -62, 64, -64}, []int64{63, 61, 61, -63}),
		table(4, []int64{62, -64, 64, 64}, []int64{-63, 64, 63, 62}, []int64{61, 62, -22, 61}, []int64{63, 61, 61, -64}),
		table(4, []int64{-63, -64, -60, -63}, []int64{-64, 62, -64, 54}, []int64{64, -56, -63, 62}, []int64{62, 61, -63, -63}, []int64{63, 63, 1, 64}),
		table(4, []int64{-63, 61, 59, -63}, []int64{-64, -64, 61, 38}, []int64{-63, -64, -64, -64}, []int64{-61, 1, -44, 62}, []int64{59, 59, 19, -16}, []int64{59, -63, 41, -64}),
		table(4, []int64{-63, 64, -61, -59}, []int64{63, 64, 63, -61}, []int64{64, -34, -60, -63}, []int64{60, 63, -64, 59}, []int64{59, 59, -64, -54}, []int64{-29, -63, 4, -14}),
		table(4, []int64{64, 64, 64, 64}, []int64{64, -64, 64, -64}, []int64{64, 64, -64, -64}, []int64{64, -64, -64, 64}),
		table(4, []int64{64, 63, 62, 61}, []int64{63, 64, -61, 62}, []int64{-62, 61, 64, -63}),
		table(4, []int64{0, 64, 63, 62}, []int64{0, 63, -64, 61}, []int64{0, 61, 62, 63}, []int64{64, 1, 1, 1}),
		table(3, []int64{64, 63, -64}, []int64{-63, 64, 61}, []int64{61, -62, 64}, []int64{64, 64, 64}),
	}
}

func allTables(s *scatter) []impl.Table {
	return slices.Concat(smallTables(), sampleTables(s), steepTables())
}

func invalidTables() []impl.Table {
	list := []impl.Table{{}, table(1, nil), table(1, []int64{0, 0}), table(2, []int64{1, 0}, []int64{0}), table(2, []int64{1, 0}, nil), table(2, []int64{1}, []int64{0, 1}), table(2, []int64{1, 0}, []int64{0, 1, 0}),
		table(1, slices.Repeat([][]int64{{1}}, impl.MaxRows+1)...), table(4, slices.Repeat([][]int64{{0, 0, 0, 0}}, impl.MaxRows+1)...), unitTable(impl.MaxColumns + 1), table(1, make([][]int64, impl.MaxRows+1)...)}
	for _, columns := range []int64{math.MinInt64, -1, 0, impl.MaxColumns + 1, math.MaxInt64} {
		list = append(list, table(columns), table(columns, nil), table(columns, []int64{1}), table(columns, make([]int64, impl.MaxColumns+1)))
	}
	for _, entry := range []int64{math.MinInt64, -impl.MaxEntry - 1, impl.MaxEntry + 1, math.MaxInt64} {
		list = append(list, table(1, []int64{entry}), table(2, []int64{1, 0}, []int64{entry, 1}), table(2, []int64{1, entry}, []int64{0, 1}), table(4, []int64{0, 0, 0, entry}))
	}
	return list
}

func TestIsTable(t *testing.T) {
	if impl.MaxRows != 12 || impl.MaxColumns != 4 || impl.MaxEntry != 64 {
		t.Errorf("the limits are %d, %d and %d", impl.MaxRows, impl.MaxColumns, impl.MaxEntry)
	}
	for _, a := range append(allTables(&scatter{41}), table(1, []int64{64}), table(1, []int64{-64}), table(4, slices.Repeat([][]int64{{64, -64, 64, -64}}, impl.MaxRows)...)) {
		if !impl.IsTable(a) {
			t.Fatalf("IsTable(%v) is false", a)
		}
	}
	for _, a := range invalidTables() {
		if impl.IsTable(a) {
			t.Errorf("IsTable(%v) is true", a)
		}
	}
}

func checkDeterminant(t *testing.T, a impl.Table) {
	t.Helper()
	want, wantCode := int64(0), int64(impl.ErrState)
	if int64(len(a.Rows)) == a.Columns {
		want, wantCode = determinantBySweeping(a.Rows), impl.ErrNone
	}
	if d, code := impl.DeterminantOf(a); d != want || code != wantCode {
		t.Fatalf("DeterminantOf(%v) = %d, %d, not %d, %d", a, d, code, want, wantCode)
	}
	if unimodular := wantCode == impl.ErrNone && (want == 1 || want == -1); impl.IsUnimodular(a) != unimodular {
		t.Fatalf("IsUnimodular(%v) is %v", a, !unimodular)
	}
}

func TestDeterminantOf(t *testing.T) {
	s := &scatter{42}
	for _, a := range allTables(s) {
		checkDeterminant(t, a)
	}
	for n := 1; n <= impl.MaxColumns; n++ {
		for range 500 {
			checkDeterminant(t, s.table(n, n, impl.MaxEntry))
			checkDeterminant(t, s.table(n, n, 1))
			permuted := diagonalTable(n, n, []int64{3, 5, 7, 11}[:n]...)
			for range 4 {
				i, j := s.below(int64(n)), s.below(int64(n))
				permuted.Rows[i], permuted.Rows[j] = permuted.Rows[j], permuted.Rows[i]
			}
			checkDeterminant(t, permuted)
		}
	}
}

func TestDeterminantOfCases(t *testing.T) {
	hadamard := steepTables()[5]
	for _, c := range []struct {
		a       impl.Table
		d, code int64
	}{
		{table(2, []int64{2, 1}, []int64{1, 3}), 5, 0}, {table(2, []int64{2, 4}, []int64{6, 8}), -8, 0}, {table(1, []int64{-64}), -64, 0}, {table(1, []int64{0}), 0, 0},
		{table(3, []int64{0, 1, 0}, []int64{0, 0, 1}, []int64{1, 0, 0}), 1, 0}, {table(3, []int64{0, 1, 0}, []int64{1, 0, 0}, []int64{0, 0, 1}), -1, 0},
		{table(4, []int64{0, 2, 0, 0}, []int64{0, 0, 3, 0}, []int64{0, 0, 0, 5}, []int64{7, 0, 0, 0}), -210, 0}, {hadamard, 1 << 28, 0}, {unitTable(4), 1, 0},
		{table(1), 0, impl.ErrState}, {table(4), 0, impl.ErrState}, {table(2, []int64{1, 0}), 0, impl.ErrState}, {table(1, []int64{1}, []int64{1}), 0, impl.ErrState},
		{table(4, slices.Repeat([][]int64{{1, 0, 0, 0}}, 12)...), 0, impl.ErrState}, {table(4, slices.Repeat([][]int64{{1, 0, 0, 0}}, 5)...), 0, impl.ErrState},
	} {
		if d, code := impl.DeterminantOf(c.a); d != c.d || code != c.code {
			t.Errorf("DeterminantOf(%v) = %d, %d, not %d, %d", c.a, d, code, c.d, c.code)
		}
	}
}

// isHermiteForm follows the definition.
func isHermiteForm(rows [][]int64, columns int64) bool {
	before := -1
	for i, row := range rows {
		if int64(len(row)) != columns || isZero(row) || leadingIndex(row) <= before || row[leadingIndex(row)] < 0 {
			return false
		}
		before = leadingIndex(row)
		for _, above := range rows[:i] {
			if above[before] < 0 || above[before] >= row[before] {
				return false
			}
		}
	}
	return true
}

// isCombination is for rows in Hermite form, of which a pivot leaves no choice for its coefficient.
func isCombination(form [][]int64, v []int64) bool {
	rest := slices.Clone(v)
	for _, row := range form {
		at := leadingIndex(row)
		if rest[at]%row[at] != 0 {
			return false
		}
		for j, quotient := 0, rest[at]/row[at]; j < len(rest); j++ {
			rest[j] -= quotient * row[j]
		}
	}
	return isZero(rest)
}

func pivotsOf(form [][]int64) ([]int, int64) {
	var columns []int
	product := int64(1)
	for _, row := range form {
		columns = append(columns, leadingIndex(row))
		product *= row[leadingIndex(row)]
	}
	return columns, product
}

// checkHermite: a lattice in another one of the same rank has minors that are multiples by its index, so that a single divisor tells whether the two are equal.
func checkHermite(t *testing.T, a impl.Table) [][]int64 {
	t.Helper()
	form, code := impl.HermiteForm(a)
	if !isHermiteForm(form, a.Columns) || code != impl.ErrNone {
		t.Fatalf("HermiteForm(%v) = %v, %d", a, form, code)
	}
	for _, row := range a.Rows {
		if !isCombination(form, row) {
			t.Fatalf("HermiteForm(%v) = %v, of which the row %v is no combination", a, form, row)
		}
	}
	columns, product := pivotsOf(form)
	if divisor := divisorInColumns(a.Rows, columns); divisor != product {
		t.Fatalf("HermiteForm(%v) = %v with the product %d, but the minors have the divisor %d", a, form, product, divisor)
	}
	return form
}

func TestHermiteForm(t *testing.T) {
	s := &scatter{43}
	for _, a := range allTables(s) {
		checkHermite(t, a)
	}
	for range 300 {
		rows, columns := 1+int(s.below(impl.MaxRows)), 1+int(s.below(impl.MaxColumns))
		checkHermite(t, s.table(rows, columns, impl.MaxEntry))
		checkHermite(t, s.table(min(rows, columns), columns, impl.MaxEntry))
		a := s.table(rows, columns, impl.MaxEntry)
		for _, row := range a.Rows {
			clear(row[:s.below(int64(columns))])
		}
		checkHermite(t, a)
	}
}

func TestHermiteCases(t *testing.T) {
	for _, c := range []struct {
		a    impl.Table
		form [][]int64
	}{
		{table(2, []int64{4, 2}, []int64{2, 4}), [][]int64{{2, 4}, {0, 6}}},
		{table(2, []int64{2, 4}, []int64{6, 8}), [][]int64{{2, 0}, {0, 4}}},
		{table(1), nil}, {table(4), nil}, {table(3, []int64{0, 0, 0}), nil},
		{table(1, []int64{-64}), [][]int64{{64}}}, {table(1, []int64{6}, []int64{-10}, []int64{15}), [][]int64{{1}}},
		{table(3, []int64{0, -2, 5}), [][]int64{{0, 2, -5}}}, {table(2, []int64{1, -1}), [][]int64{{1, -1}}},
		{table(2, []int64{0, 3}, []int64{2, -1}), [][]int64{{2, 2}, {0, 3}}}, {table(2, []int64{0, -3}, []int64{-2, 6}), [][]int64{{2, 0}, {0, 3}}},
		{table(4, []int64{0, 0, 2, 7}, []int64{3, -5, 9, 1}), [][]int64{{3, -5, 1, -27}, {0, 0, 2, 7}}},
		{table(4, slices.Repeat([][]int64{{64, 64, 64, 64}}, 12)...), [][]int64{{64, 64, 64, 64}}},
		{table(2, []int64{64, 1}, []int64{-63, 64}), [][]int64{{1, 65}, {0, 4159}}}, // 4159 = 64 * 64 + 63
		{unitTable(4), unitTable(4).Rows},
	} {
		if form, code := impl.HermiteForm(c.a); !sameRows(form, c.form) || code != impl.ErrNone {
			t.Errorf("HermiteForm(%v) = %v, %d, not %v", c.a, form, code, c.form)
		}
	}
}

// regenerated has other rows of the same lattice.
func (s *scatter) regenerated(a impl.Table) impl.Table {
	b := table(a.Columns)
	for _, row := range a.Rows {
		b.Rows = append(b.Rows, slices.Clone(row))
	}
	for count := len(b.Rows); len(b.Rows) < impl.MaxRows && s.below(3) > 0; {
		extra := make([]int64, a.Columns)
		if count > 0 {
			extra = slices.Clone(b.Rows[s.below(int64(count))])
		}
		b.Rows = append(b.Rows, extra)
	}
	count := int64(len(b.Rows))
	for range 4 * count {
		i, j, factor := s.below(count), s.below(count), s.signed(2)
		sum := slices.Clone(b.Rows[i])
		for at := range sum {
			sum[at] += factor * b.Rows[j][at]
		}
		if i != j && haveTableEntries([][]int64{sum}) {
			b.Rows[i] = sum
		}
		b.Rows[i], b.Rows[j] = b.Rows[j], b.Rows[i]
	}
	return b
}

func TestHermiteFormDependsOnTheLatticeAlone(t *testing.T) {
	s := &scatter{44}
	for _, a := range allTables(s) {
		form, _ := impl.HermiteForm(a)
		for range 3 {
			b := s.regenerated(a)
			if other, code := impl.HermiteForm(b); !sameRows(other, form) || code != impl.ErrNone {
				t.Fatalf("HermiteForm(%v) = %v, and of the same lattice HermiteForm(%v) = %v, %d", a, form, b, other, code)
			}
		}
		if haveTableEntries(form) {
			if again, code := impl.HermiteForm(table(a.Columns, form...)); !sameRows(again, form) || code != impl.ErrNone {
				t.Fatalf("HermiteForm of the Hermite form %v is %v, %d", form, again, code)
			}
		}
	}
}

// isMemberByMinors: a new row changes neither the rank nor the divisor of the minors of that size exactly if it is in the lattice.
func isMemberByMinors(a impl.Table, v []int64) bool {
	rank := 0
	for rank < int(a.Columns) && divisorByMinors(a.Rows, a.Columns, rank+1) != 0 {
		rank++
	}
	rows := append(slices.Clone(a.Rows), v)
	return divisorByMinors(rows, a.Columns, rank+1) == 0 && divisorByMinors(rows, a.Columns, rank) == divisorByMinors(a.Rows, a.Columns, rank)
}

func checkMember(t *testing.T, a impl.Table, v []int64, want bool) {
	t.Helper()
	if member, code := impl.IsInLattice(a, v); member != want || code != impl.ErrNone {
		t.Fatalf("IsInLattice(%v, %v) = %v, %d", a, v, member, code)
	}
}

// checkRemainder returns the remainder, of which the definition leaves one choice.
func checkRemainder(t *testing.T, a impl.Table, form [][]int64, v []int64) []int64 {
	t.Helper()
	r, code := impl.RemainderOf(a, v)
	if int64(len(r)) != a.Columns || code != impl.ErrNone {
		t.Fatalf("RemainderOf(%v, %v) = %v, %d", a, v, r, code)
	}
	difference := slices.Clone(v)
	for j := range difference {
		difference[j] -= r[j]
	}
	if !isCombination(form, difference) {
		t.Fatalf("RemainderOf(%v, %v) = %v, which is in another coset", a, v, r)
	}
	for _, row := range form {
		if at := leadingIndex(row); r[at] < 0 || r[at] >= row[at] {
			t.Fatalf("RemainderOf(%v, %v) = %v, not in the range of the pivots of %v", a, v, r, form)
		}
	}
	checkMember(t, a, v, isZero(r))
	return r
}

// checkCosets is the promise for remainders. Lists with small entries are held against the minors, too.
func checkCosets(t *testing.T, s *scatter, a impl.Table) {
	t.Helper()
	form, _ := impl.HermiteForm(a)
	for _, bound := range []int64{0, 1, 3, impl.MaxEntry} {
		v := s.table(1, int(a.Columns), bound).Rows[0]
		r := checkRemainder(t, a, form, v)
		if len(a.Rows) <= 4 {
			checkMember(t, a, v, isMemberByMinors(a, v))
		}
		if haveTableEntries([][]int64{r}) {
			checkMember(t, a, r, isZero(r))
			if again, code := impl.RemainderOf(a, r); !slices.Equal(again, r) || code != impl.ErrNone {
				t.Fatalf("RemainderOf(%v, %v) = %v, %d, but it is a remainder", a, r, again, code)
			}
		}
		for _, factor := range []int64{-2, -1, 1, 2} {
			other := slices.Clone(v)
			for _, row := range a.Rows {
				sum := slices.Clone(other)
				for j := range sum {
					sum[j] += factor * row[j]
				}
				if haveTableEntries([][]int64{sum}) {
					other = sum
				}
			}
			if same, code := impl.RemainderOf(s.regenerated(a), other); !slices.Equal(same, r) || code != impl.ErrNone {
				t.Fatalf("RemainderOf(%v, %v) = %v, but in the same coset it is %v, %d of %v", a, v, r, same, code, other)
			}
		}
	}
}

func TestListsInOneCosetHaveOneRemainder(t *testing.T) {
	s := &scatter{45}
	for _, a := range allTables(s) {
		checkCosets(t, s, a)
	}
}

func TestElementsOfTheLatticeHaveRemainderZero(t *testing.T) {
	s := &scatter{46}
	for _, a := range allTables(s) {
		checkMember(t, a, make([]int64, a.Columns), true)
		for _, row := range a.Rows {
			checkMember(t, a, row, true)
		}
		var x []int64
		for range a.Rows {
			x = append(x, s.signed(2))
		}
		if v := timesRows(x, a.Rows, a.Columns); haveTableEntries([][]int64{v}) {
			checkMember(t, a, v, true)
			if r, code := impl.RemainderOf(a, v); !isZero(r) || code != impl.ErrNone {
				t.Fatalf("RemainderOf(%v, %v) = %v, %d", a, v, r, code)
			}
		}
	}
}

// A box that holds all remainders has one list of each coset at least, so that there are as many remainders in it as the index.
func TestIndexIsTheNumberOfCosets(t *testing.T) {
	for _, a := range smallTables() {
		index, code := impl.LatticeIndex(a)
		if a.Columns > 2 || index == 0 || index > 20 || code != impl.ErrNone {
			continue
		}
		cosets := map[string]bool{}
		for _, v := range allVectors(20, int(a.Columns)) {
			r, _ := impl.RemainderOf(a, v)
			cosets[fmt.Sprint(r)] = true
		}
		if int64(len(cosets)) != index {
			t.Fatalf("LatticeIndex(%v) = %d, but there are %d cosets", a, index, len(cosets))
		}
	}
}

func TestRemainderCases(t *testing.T) {
	a := table(2, []int64{2, 4}, []int64{6, 8})
	for _, c := range []struct {
		a    impl.Table
		v, r []int64
	}{
		{a, []int64{3, -1}, []int64{1, 3}}, {a, []int64{4, 4}, []int64{0, 0}}, {a, []int64{1, 0}, []int64{1, 0}}, {a, []int64{-64, -63}, []int64{0, 1}},
		{table(2, []int64{4, 2}, []int64{2, 4}), []int64{-1, 0}, []int64{1, 4}}, {table(3), []int64{-64, 0, 64}, []int64{-64, 0, 64}},
		{table(2, []int64{2, 64}), []int64{64, 0}, []int64{0, -2048}}, {table(2, []int64{0, 3}), []int64{-7, -7}, []int64{-7, 2}}, {table(2, []int64{-3, 1}), []int64{-7, 0}, []int64{2, -3}},
		{table(1, []int64{64}, []int64{-64}), []int64{-1}, []int64{63}}, {unitTable(4), []int64{64, -64, 1, -1}, []int64{0, 0, 0, 0}},
	} {
		if r, code := impl.RemainderOf(c.a, c.v); !slices.Equal(r, c.r) || code != impl.ErrNone {
			t.Errorf("RemainderOf(%v, %v) = %v, %d, not %v", c.a, c.v, r, code, c.r)
		}
		checkMember(t, c.a, c.v, isZero(c.r))
	}
}

// checkFactors is the promise for invariant factors.
func checkFactors(t *testing.T, a impl.Table) {
	t.Helper()
	factors, code := impl.SmithFactors(a)
	if len(factors) > min(len(a.Rows), int(a.Columns)) || code != impl.ErrNone {
		t.Fatalf("SmithFactors(%v) = %v, %d", a, factors, code)
	}
	product := int64(1)
	for k := 1; k <= impl.MaxColumns; k++ {
		if k > len(factors) {
			product = 0
		} else {
			product *= factors[k-1]
			if factors[k-1] <= 0 || k > 1 && factors[k-1]%factors[k-2] != 0 {
				t.Fatalf("SmithFactors(%v) = %v, which is no chain of divisors", a, factors)
			}
		}
		if want := divisorByMinors(a.Rows, a.Columns, k); product != want {
			t.Fatalf("SmithFactors(%v) = %v, but the minors of size %d have the divisor %d", a, factors, k, want)
		}
		if divisor, code := impl.MinorsDivisor(a, int64(k)); divisor != product || code != impl.ErrNone {
			t.Fatalf("MinorsDivisor(%v, %d) = %d, %d, not %d", a, k, divisor, code, product)
		}
		if index, code := impl.LatticeIndex(a); int64(k) == a.Columns && index != product || code != impl.ErrNone {
			t.Fatalf("LatticeIndex(%v) = %d, %d, and the factors are %v", a, index, code, factors)
		}
	}
}

func TestInvariantFactorsGiveIndexAndDivisors(t *testing.T) {
	s := &scatter{47}
	for _, a := range allTables(s) {
		checkFactors(t, a)
	}
}

func TestFactorCases(t *testing.T) {
	for _, c := range []struct {
		a                impl.Table
		index            int64
		factors, divisor []int64
	}{
		{table(2, []int64{2, 0}, []int64{0, 3}), 6, []int64{1, 6}, []int64{1, 6, 0, 0}}, {table(2, []int64{2, 4}, []int64{6, 8}), 8, []int64{2, 4}, []int64{2, 8, 0, 0}},
		{table(1), 0, nil, []int64{0, 0, 0, 0}}, {table(4), 0, nil, []int64{0, 0, 0, 0}}, {table(2, []int64{0, 0}), 0, nil, []int64{0, 0, 0, 0}},
		{table(1, []int64{-6}, []int64{4}), 2, []int64{2}, []int64{2, 0, 0, 0}}, {table(4, []int64{6, -4, 0, 10}), 0, []int64{2}, []int64{2, 0, 0, 0}},
		{table(3, []int64{1, 2, 3}, []int64{2, 4, 6}, []int64{0, 0, 5}), 0, []int64{1, 5}, []int64{1, 5, 0, 0}}, {unitTable(4), 1, []int64{1, 1, 1, 1}, []int64{1, 1, 1, 1}},
		{diagonalTable(4, 4, 64, 64, 64, 64), 1 << 24, []int64{64, 64, 64, 64}, []int64{1 << 6, 1 << 12, 1 << 18, 1 << 24}},
		{diagonalTable(12, 4, 4, 6, 10, 15), 3600, []int64{1, 2, 30, 60}, []int64{1, 2, 60, 3600}},
		{steepTables()[5], 1 << 28, []int64{64, 128, 128, 256}, []int64{1 << 6, 1 << 13, 1 << 20, 1 << 28}},
	} {
		if index, code := impl.LatticeIndex(c.a); index != c.index || code != impl.ErrNone {
			t.Errorf("LatticeIndex(%v) = %d, %d, not %d", c.a, index, code, c.index)
		}
		if factors, code := impl.SmithFactors(c.a); !slices.Equal(factors, c.factors) || code != impl.ErrNone {
			t.Errorf("SmithFactors(%v) = %v, %d, not %v", c.a, factors, code, c.factors)
		}
		for k, want := range c.divisor {
			if divisor, code := impl.MinorsDivisor(c.a, int64(k)+1); divisor != want || code != impl.ErrNone {
				t.Errorf("MinorsDivisor(%v, %d) = %d, %d, not %d", c.a, k+1, divisor, code, want)
			}
		}
	}
}

func TestIsUnimodular(t *testing.T) {
	for _, a := range []impl.Table{
		unitTable(1), unitTable(4), table(1, []int64{-1}), table(2, []int64{0, 1}, []int64{1, 0}), table(2, []int64{1, 64}, []int64{0, -1}), table(2, []int64{55, 34}, []int64{34, 21}),
		table(3, []int64{1, 64, -64}, []int64{0, 1, 64}, []int64{0, 0, 1}),
	} {
		if !impl.IsUnimodular(a) {
			t.Errorf("IsUnimodular(%v) is false", a)
		}
	}
	for _, a := range append(invalidTables(), table(1), table(4), table(1, []int64{0}), table(1, []int64{2}), table(2, []int64{1, 0}), table(1, []int64{1}, []int64{0}),
		table(2, []int64{2, 0}, []int64{0, 3}), diagonalTable(5, 4, 1, 1, 1, 1), table(2, []int64{1, 65}, []int64{0, 1})) {
		if impl.IsUnimodular(a) {
			t.Errorf("IsUnimodular(%v) is true", a)
		}
	}
}

// smithProof is what IsSmithProof is asked about.
type smithProof struct {
	a, u, v impl.Table
	d       []int64
}

func (p smithProof) isAccepted() bool { return impl.IsSmithProof(p.a, p.u, p.v, p.d) }

// isProof follows the definition.
func (p smithProof) isProof() bool {
	rows, columns := len(p.a.Rows), int(p.a.Columns)
	if !impl.IsTable(p.a) || rows < 1 || rows > 4 || !impl.IsTable(p.u) || !impl.IsTable(p.v) || len(p.d) > min(rows, columns) {
		return false
	}
	if len(p.u.Rows) != rows || p.u.Columns != int64(rows) || len(p.v.Rows) != columns || p.v.Columns != int64(columns) {
		return false
	}
	for i, number := range p.d {
		if number < 1 || i > 0 && number%p.d[i-1] != 0 {
			return false
		}
	}
	if gcdOf(0, determinantBySweeping(p.u.Rows)) != 1 || gcdOf(0, determinantBySweeping(p.v.Rows)) != 1 {
		return false
	}
	return sameRows(timesTable(timesTable(p.u.Rows, p.a), p.v), diagonalTable(rows, columns, p.d...).Rows)
}

// unimodularPair is a matrix and its inverse, both as products of few simple factors.
func (s *scatter) unimodularPair(n int) (impl.Table, impl.Table) {
	m, inverse := unitTable(n), unitTable(n)
	for range 2 * n {
		i, j, factor := s.below(int64(n)), s.below(int64(n)), s.signed(2)
		for at := range n {
			if i != j {
				m.Rows[i][at] += factor * m.Rows[j][at]
				inverse.Rows[at][j] -= factor * inverse.Rows[at][i]
			} else {
				m.Rows[i][at], inverse.Rows[at][i] = -m.Rows[i][at], -inverse.Rows[at][i]
			}
		}
	}
	return m, inverse
}

// sampleProofs are those that have room in tables.
func sampleProofs(s *scatter) []smithProof {
	var list []smithProof
	for rows := 1; rows <= 4; rows++ {
		for columns := 1; columns <= impl.MaxColumns; columns++ {
			for range 60 {
				var d []int64
				for number := int64(1); len(d) < int(s.below(int64(min(rows, columns)+1))); d = append(d, number) {
					number *= 1 + s.below(3)
				}
				left, u := s.unimodularPair(rows)
				right, v := s.unimodularPair(columns)
				a := table(int64(columns), timesTable(timesTable(left.Rows, diagonalTable(rows, columns, d...)), right)...)
				if p := (smithProof{a, u, v, d}); impl.IsTable(a) && impl.IsTable(u) && impl.IsTable(v) {
					list = append(list, p)
				}
			}
		}
	}
	return list
}

func TestSmithProofsAreAccepted(t *testing.T) {
	list := sampleProofs(&scatter{48})
	if len(list) < 300 {
		t.Errorf("there are only %d proofs", len(list))
	}
	for _, p := range list {
		if !p.isProof() || !p.isAccepted() {
			t.Fatalf("IsSmithProof(%v) is %v", p, p.isAccepted())
		}
		if factors, code := impl.SmithFactors(p.a); !slices.Equal(factors, p.d) || code != impl.ErrNone {
			t.Fatalf("SmithFactors(%v) = %v, %d, but there is a proof of %v", p.a, factors, code, p.d)
		}
	}
}

func checkProof(t *testing.T, p smithProof) {
	t.Helper()
	accepted := p.isAccepted()
	if accepted != p.isProof() {
		t.Fatalf("IsSmithProof(%v) is %v", p, accepted)
	}
	if factors, _ := impl.SmithFactors(p.a); accepted && !slices.Equal(factors, p.d) {
		t.Fatalf("IsSmithProof(%v) is true, but the factors are %v", p, factors)
	}
}

// Whatever is accepted are the invariant factors: proofs in which one number, or the shape, is another one.
func TestChangedProofs(t *testing.T) {
	for _, p := range sampleProofs(&scatter{49}) {
		for _, row := range slices.Concat(p.a.Rows, p.u.Rows, p.v.Rows, [][]int64{p.d}) {
			for i, before := range row {
				for _, row[i] = range []int64{-before, before - 1, before + 1, 0, 2 * before, 65, math.MinInt64} {
					checkProof(t, p)
				}
				row[i] = before
			}
		}
		for _, q := range []smithProof{
			{p.a, p.v, p.u, p.d}, {p.a, p.u, p.a, p.d}, {p.a, p.a, p.v, p.d}, {p.u, p.a, p.v, p.d}, {p.a, p.u, unitTable(int(p.a.Columns)), p.d}, {p.a, unitTable(len(p.a.Rows)), p.v, p.d},
			{p.a, p.u, p.v, append(slices.Clone(p.d), 0)}, {p.a, p.u, p.v, append(slices.Clone(p.d), 1)}, {p.a, p.u, p.v, append([]int64{1}, p.d...)},
			{p.a, p.u, p.v, append(slices.Clone(p.d), math.MaxInt64)}, {p.a, p.u, p.v, p.d[:max(len(p.d)-1, 0)]}, {p.a, p.u, p.v, nil},
		} {
			checkProof(t, q)
		}
	}
}

// Small tables between all matrices with entries in -1..1: many products are diagonal, and few of them are proofs.
func TestSmallProofsBySearch(t *testing.T) {
	var units, tables []impl.Table
	for _, entries := range allVectors(3, 4) {
		for i := range entries {
			entries[i]--
		}
		units = append(units, table(2, rowsOfEntries(entries, 2, 2)...))
	}
	for _, diagonal := range allVectors(7, 2) {
		tables = append(tables, table(2, []int64{diagonal[0] - 3, 0}, []int64{1, diagonal[1] - 3}))
	}
	accepted := 0
	for _, a := range tables {
		factors, _ := impl.SmithFactors(a)
		for _, u := range units {
			for _, v := range units {
				product := timesTable(timesTable(u.Rows, a), v)
				for _, d := range [][]int64{factors, {product[0][0], product[1][1]}, {product[0][0]}} {
					p := smithProof{a, u, v, d}
					checkProof(t, p)
					if p.isAccepted() {
						accepted++
					}
				}
			}
		}
	}
	if accepted < 100 {
		t.Errorf("only %d of the small proofs are accepted", accepted)
	}
}

func TestSmithProofCases(t *testing.T) {
	a, one, two := table(2, []int64{2, 4}, []int64{6, 8}), unitTable(1), unitTable(2)
	u, v := table(2, []int64{1, 0}, []int64{3, -1}), table(2, []int64{1, -2}, []int64{0, 1})
	tall := diagonalTable(5, 4, 1, 1, 1, 1)
	for _, c := range []struct {
		p    smithProof
		want bool
	}{
		{smithProof{a, u, v, []int64{2, 4}}, true}, {smithProof{a, u, v, []int64{4, 2}}, false}, {smithProof{a, u, v, []int64{2}}, false}, {smithProof{a, u, v, []int64{2, 4, 4}}, false}, {smithProof{a, two, two, []int64{2, 4}}, false},
		{smithProof{table(1, []int64{0}), one, one, nil}, true}, {smithProof{table(1, []int64{0}), one, one, []int64{0}}, false}, {smithProof{diagonalTable(4, 4), unitTable(4), unitTable(4), []int64{}}, true},
		{smithProof{table(1, []int64{-2}), one, one, []int64{-2}}, false}, {smithProof{table(1, []int64{-2}), table(1, []int64{-1}), one, []int64{2}}, true}, {smithProof{table(1, []int64{1}), table(1, []int64{2}), one, []int64{2}}, false},
		{smithProof{table(1, []int64{1}), one, table(1, []int64{2}), []int64{2}}, false}, {smithProof{two, two, two, []int64{1}}, false}, {smithProof{two, two, two, []int64{1, 1}}, true}, {smithProof{two, two, two, []int64{1, 1, 1}}, false},
		{smithProof{diagonalTable(2, 2, 2, 3), two, two, []int64{2, 3}}, false}, {smithProof{diagonalTable(2, 2, 4, 2), two, two, []int64{4, 2}}, false}, {smithProof{diagonalTable(2, 2, 2, -4), two, two, []int64{2, -4}}, false},
		{smithProof{diagonalTable(2, 2, 0, 1), two, two, []int64{0, 1}}, false}, {smithProof{diagonalTable(2, 2, 0, 1), two, two, []int64{1}}, false}, {smithProof{diagonalTable(2, 2, 3, 0), two, two, []int64{3}}, true},
		{smithProof{table(2, []int64{0, 3}, []int64{3, 0}), two, two, []int64{3, 3}}, false}, {smithProof{table(2, []int64{1, 0}, []int64{1, 1}), two, two, []int64{1, 1}}, false}, {smithProof{table(2, []int64{1, 1}, []int64{0, 1}), two, two, []int64{1, 1}}, false},
		{smithProof{diagonalTable(1, 2, 5), one, two, []int64{5}}, true}, {smithProof{diagonalTable(1, 2, 5), two, one, []int64{5}}, false}, {smithProof{diagonalTable(2, 1, 5), two, one, []int64{5}}, true}, {smithProof{diagonalTable(2, 1, 5), one, two, []int64{5}}, false},
		{smithProof{diagonalTable(1, 2, 5), one, two, []int64{5, 5}}, false}, {smithProof{table(1, []int64{1}), two, one, []int64{1}}, false}, {smithProof{table(1, []int64{1}), one, two, []int64{1}}, false}, {smithProof{table(1, []int64{64}), one, one, []int64{64}}, true},
		{smithProof{diagonalTable(4, 4, 1, 2, 4, 8), unitTable(4), unitTable(4), []int64{1, 2, 4, 8}}, true}, {smithProof{tall, unitTable(5), unitTable(4), []int64{1, 1, 1, 1}}, false}, {smithProof{tall, unitTable(4), unitTable(4), []int64{1, 1, 1, 1}}, false},
		{smithProof{table(1), table(1), one, nil}, false}, {smithProof{table(1), table(0), one, nil}, false}, {smithProof{table(1), impl.Table{}, one, nil}, false}, {smithProof{table(1), one, one, nil}, false}, {smithProof{}, false},
		{smithProof{table(2, []int64{1, -64}, []int64{0, 1}), two, table(2, []int64{1, 64}, []int64{0, 1}), []int64{1, 1}}, true}, {smithProof{table(2, []int64{1, -65}, []int64{0, 1}), two, table(2, []int64{1, 65}, []int64{0, 1}), []int64{1, 1}}, false},
	} {
		if accepted := c.p.isAccepted(); accepted != c.want {
			t.Errorf("IsSmithProof(%v) is %v", c.p, accepted)
		}
	}
	for _, bad := range invalidTables() {
		for _, good := range []impl.Table{one, two, unitTable(4)} {
			for _, p := range []smithProof{{bad, good, good, []int64{1}}, {good, bad, good, []int64{1}}, {good, good, bad, []int64{1}}, {bad, bad, bad, nil}} {
				if p.isAccepted() {
					t.Errorf("IsSmithProof(%v) is true", p)
				}
			}
		}
	}
}

func checkTableErrors(t *testing.T, bad impl.Table) {
	t.Helper()
	if d, code := impl.DeterminantOf(bad); d != 0 || code != impl.ErrInvalid {
		t.Errorf("DeterminantOf(%v) = %d, %d", bad, d, code)
	}
	if form, code := impl.HermiteForm(bad); len(form) != 0 || code != impl.ErrInvalid {
		t.Errorf("HermiteForm(%v) = %v, %d", bad, form, code)
	}
	if index, code := impl.LatticeIndex(bad); index != 0 || code != impl.ErrInvalid {
		t.Errorf("LatticeIndex(%v) = %d, %d", bad, index, code)
	}
	if factors, code := impl.SmithFactors(bad); len(factors) != 0 || code != impl.ErrInvalid {
		t.Errorf("SmithFactors(%v) = %v, %d", bad, factors, code)
	}
	for _, k := range append([]int64{1, 2, 3, 4}, outsideSizes...) {
		if divisor, code := impl.MinorsDivisor(bad, k); divisor != 0 || code != impl.ErrInvalid {
			t.Errorf("MinorsDivisor(%v, %d) = %d, %d", bad, k, divisor, code)
		}
	}
	for _, v := range append([][]int64{nil, {0}, {65}, {0, 0}, {0, 65}, {0, 0, 0, 0}, {0, 0, 0, 0, 0}}, bad.Rows...) {
		checkListErrors(t, bad, v, impl.ErrInvalid)
	}
}

var outsideSizes = []int64{math.MinInt64, -1, 0, impl.MaxColumns + 1, impl.MaxRows, impl.MaxRows + 1, math.MaxInt64}

func checkListErrors(t *testing.T, a impl.Table, v []int64, want int64) {
	t.Helper()
	if member, code := impl.IsInLattice(a, v); member || code != want {
		t.Errorf("IsInLattice(%v, %v) = %v, %d, not %d", a, v, member, code, want)
	}
	if r, code := impl.RemainderOf(a, v); len(r) != 0 || code != want {
		t.Errorf("RemainderOf(%v, %v) = %v, %d, not %d", a, v, r, code, want)
	}
}

// What is no table is an error ahead of a shape without a determinant, of a size without minors and of a list out of its range.
func TestInvalidTablesAreErrors(t *testing.T) {
	for _, bad := range invalidTables() {
		checkTableErrors(t, bad)
	}
}

// The length of a list is checked ahead of its entries.
func TestListErrorsInOrder(t *testing.T) {
	for _, a := range []impl.Table{table(1), unitTable(1), table(2), unitTable(2), table(4), unitTable(4), steepTables()[0]} {
		for n := range int64(7) {
			for _, entry := range []int64{math.MinInt64, -impl.MaxEntry - 1, impl.MaxEntry + 1, math.MaxInt64} {
				want := int64(impl.ErrInvalid)
				if n == a.Columns {
					want = impl.ErrRange
				} else {
					checkListErrors(t, a, make([]int64, n), want)
				}
				for i := range n {
					v := make([]int64, n)
					v[i] = entry
					checkListErrors(t, a, v, want)
				}
			}
		}
		checkListErrors(t, a, nil, impl.ErrInvalid)
		for _, v := range [][]int64{slices.Repeat([]int64{impl.MaxEntry}, int(a.Columns)), slices.Repeat([]int64{-impl.MaxEntry}, int(a.Columns))} {
			form, _ := impl.HermiteForm(a)
			checkRemainder(t, a, form, v)
		}
	}
}

func TestMinorsDivisorErrors(t *testing.T) {
	for _, a := range []impl.Table{table(1), table(4), unitTable(1), unitTable(4), diagonalTable(12, 4, 1, 1), diagonalTable(5, 4, 1, 1)} {
		for _, k := range outsideSizes {
			if divisor, code := impl.MinorsDivisor(a, k); divisor != 0 || code != impl.ErrRange {
				t.Errorf("MinorsDivisor(%v, %d) = %d, %d", a, k, divisor, code)
			}
		}
	}
}

func checkTableMemory(t *testing.T, a impl.Matrix, b impl.Matrix, v []int64) {
	t.Helper()
	first, second := table(a.Columns, a.Rows...), table(b.Columns, b.Rows...)
	for name, call := range map[string]func() (impl.Matrix, int64){
		"HermiteForm": func() (impl.Matrix, int64) {
			form, code := impl.HermiteForm(first)
			return matrix(0, 0, form...), code
		},
		"SmithFactors": func() (impl.Matrix, int64) {
			factors, code := impl.SmithFactors(first)
			return matrix(0, 0, factors), code
		},
		"RemainderOf": func() (impl.Matrix, int64) {
			r, code := impl.RemainderOf(first, v)
			return matrix(0, 0, r), code
		},
		"IsInLattice": func() (impl.Matrix, int64) {
			member, code := impl.IsInLattice(first, v)
			return matrix(int64(len(fmt.Sprint(member))), 0), code
		},
		"DeterminantOf": func() (impl.Matrix, int64) {
			d, code := impl.DeterminantOf(first)
			return matrix(d, 0), code
		},
		"LatticeIndex": func() (impl.Matrix, int64) {
			index, code := impl.LatticeIndex(first)
			return matrix(index, 0), code
		},
		"MinorsDivisor": func() (impl.Matrix, int64) {
			divisor, code := impl.MinorsDivisor(first, 2)
			return matrix(divisor, 0), code
		},
		"the tests": func() (impl.Matrix, int64) {
			return impl.Matrix{}, int64(len(fmt.Sprint(impl.IsTable(first), impl.IsUnimodular(first), impl.IsSmithProof(first, second, second, v), impl.IsSmithProof(second, first, first, v))))
		},
	} {
		checkCallMemory(t, name, call, a, b, v)
	}
}

func TestTableArgumentsStayAndResultsAreNew(t *testing.T) {
	s := &scatter{50}
	for _, a := range append(sampleTables(s), steepTables()...) {
		v := s.table(1, int(a.Columns), 3).Rows[0]
		checkTableMemory(t, roomyMatrix(matrix(0, a.Columns, a.Rows...)), roomyMatrix(identity(0, int(a.Columns))), roomy(v))
		checkTableMemory(t, roomyMatrix(matrix(0, a.Columns, a.Rows...)), roomyMatrix(matrix(0, a.Columns, a.Rows...)), roomy(v))
	}
	for _, p := range sampleProofs(s) {
		if p.a.Columns == int64(len(p.a.Rows)) {
			checkTableMemory(t, roomyMatrix(matrix(0, p.a.Columns, p.a.Rows...)), roomyMatrix(matrix(0, p.u.Columns, p.u.Rows...)), roomy(p.d))
		}
	}
	for _, bad := range invalidTables() {
		checkTableMemory(t, roomyMatrix(matrix(0, bad.Columns, bad.Rows...)), roomyMatrix(identity(0, 2)), roomy([]int64{0, 1}))
	}
}
