package tests

import (
	"fmt"
	"math"
	"slices"
	"testing"

	"loop.example/g01076/impl"
)

// fixing maps each index to itself.
func fixing(size int) []int64 {
	list := []int64{}
	for t := range size {
		list = append(list, int64(t))
	}
	return list
}

// rotation maps each index to the one that is so much greater, and begins again behind the last one.
func rotation(size int, by int) []int64 { return slices.Concat(fixing(size)[by:], fixing(size)[:by]) }

func (s *scatter) bijection(size int) []int64 {
	list := fixing(size)
	for t := range list {
		other := s.below(int64(t) + 1)
		list[t], list[other] = list[other], list[t]
	}
	return list
}

func (s *scatter) bijections(count int, size int) [][]int64 {
	var list [][]int64
	for range count {
		list = append(list, s.bijection(size))
	}
	return list
}

func isBijectionByRules(a []int64) bool {
	return len(a) <= 128 && slices.Equal(slices.Sorted(slices.Values(a)), fixing(len(a)))
}

// valueByRules follows a word from each index.
func valueByRules(w []int64, list [][]int64, size int) []int64 {
	value := []int64{}
	for t := range int64(size) {
		value = append(value, apply(w, list, t))
	}
	return value
}

// isRealisationByRules is for a valid presentation.
func isRealisationByRules(p impl.Presentation, list [][]int64) bool {
	size := int(orderByRules(p.Orders))
	if len(list) != len(p.Orders) {
		return false
	}
	for _, a := range list {
		if len(a) != size || !isBijectionByRules(a) {
			return false
		}
	}
	for _, relator := range relatorsByRules(p) {
		if !slices.Equal(valueByRules(relator, list, size), fixing(size)) {
			return false
		}
	}
	reached := map[int64]bool{0: true}
	for range size {
		for t := range int64(size) {
			for _, a := range list {
				reached[a[t]] = reached[a[t]] || reached[t]
			}
		}
	}
	return !slices.Contains(valuesAt(reached, fixing(size)), false)
}

func valuesAt(values map[int64]bool, keys []int64) []bool {
	var list []bool
	for _, key := range keys {
		list = append(list, values[key])
	}
	return list
}

// notBijections are lists of some size at which one number is wrong, or the size itself.
func notBijections(size int) [][]int64 {
	list := [][]int64{fixing(129), rotation(129, 1), fixing(256), fixing(1000), times(128, 0), times(129, 0), times(2, 0), times(2, 1), rotation(7, 3)[1:], append(fixing(5), 4), append(fixing(5), 6), append(fixing(127), 128)}
	for at := range size {
		for _, number := range []int64{math.MinInt64, -1 << 32, -256, -1, int64(at+1) % int64(size), int64(size), int64(at) + 128, int64(at) + 256, 1<<32 + int64(at), math.MaxInt64} {
			a := fixing(size)
			a[at] = number
			list = append(list, a)
		}
	}
	return slices.DeleteFunc(list, isBijectionByRules)
}

func checkIsBijection(t *testing.T, a []int64) {
	t.Helper()
	if want := isBijectionByRules(a); impl.IsBijection(a) != want {
		t.Fatalf("IsBijection(%v) is %v", a, !want)
	}
}

func checkCompose(t *testing.T, a []int64, b []int64, want []int64, wantCode int64) {
	t.Helper()
	if c, code := impl.ComposeBijections(a, b); !slices.Equal(c, want) || code != wantCode {
		t.Fatalf("ComposeBijections(%v, %v) = %v, %d, not %v, %d", a, b, c, code, want, wantCode)
	}
}

func checkEvaluate(t *testing.T, w []int64, list [][]int64, want []int64, wantCode int64) {
	t.Helper()
	if c, code := impl.EvaluateBijections(w, list); !slices.Equal(c, want) || code != wantCode {
		t.Fatalf("EvaluateBijections(%v, %v) = %v, %d, not %v, %d", w, list, c, code, want, wantCode)
	}
}

func checkRealisation(t *testing.T, p impl.Presentation, list [][]int64, want bool, wantCode int64) {
	t.Helper()
	if is, code := impl.IsRealisation(p, list); is != want || code != wantCode {
		t.Fatalf("IsRealisation(%v, %v) is %v, %d, not %v, %d", p, list, is, code, want, wantCode)
	}
}

func mustHaveRealisation(t *testing.T, p impl.Presentation) [][]int64 {
	t.Helper()
	list, code := impl.RegularRealisation(p)
	if code != impl.ErrNone {
		t.Fatalf("RegularRealisation(%v) has the code %d", p, code)
	}
	return list
}

func TestIsBijection(t *testing.T) {
	for size := range 5 {
		for _, a := range allVectors(int64(size)+2, size) {
			for t := range a {
				a[t]--
			}
			checkIsBijection(t, a)
		}
	}
	s := &scatter{130}
	for size := range 140 {
		checkIsBijection(t, fixing(size))
		checkIsBijection(t, s.bijection(size))
		checkIsBijection(t, rotation(size, size/2))
	}
	for _, a := range slices.Concat(notBijections(3), notBijections(128)) {
		checkIsBijection(t, a)
	}
	for _, c := range []struct {
		a    []int64
		want bool
	}{{nil, true}, {[]int64{}, true}, {[]int64{0}, true}, {[]int64{1}, false}, {[]int64{-1}, false}, {[]int64{1, 0, 2}, true}, {[]int64{1, 1}, false}, {[]int64{1, 2}, false}, {[]int64{0, 2, 1, 3}, true}, {fixing(127), true}, {fixing(128), true}, {fixing(129), false}, {rotation(128, 5), true}, {rotation(129, 5), false}, {fixing(1 << 17), false}} {
		if impl.IsBijection(c.a) != c.want {
			t.Errorf("IsBijection of %d numbers is %v: %.20v", len(c.a), !c.want, c.a)
		}
	}
}

func TestComposeBijections(t *testing.T) {
	for size := range 5 {
		for _, a := range permutationsOf(size) {
			for _, b := range permutationsOf(size) {
				checkCompose(t, a, b, valueByRules([]int64{1, 2}, [][]int64{a, b}, size), impl.ErrNone)
			}
		}
	}
	s := &scatter{131}
	for size := range 129 {
		a, b := s.bijection(size), s.bijection(size)
		checkCompose(t, a, b, valueByRules([]int64{1, 2}, [][]int64{a, b}, size), impl.ErrNone)
	}
	checkCompose(t, nil, []int64{}, nil, impl.ErrNone)
	checkCompose(t, []int64{1, 2, 0}, []int64{1, 0, 2}, []int64{0, 2, 1}, impl.ErrNone)
	checkCompose(t, []int64{1, 0, 2}, []int64{1, 2, 0}, []int64{2, 1, 0}, impl.ErrNone)
	checkCompose(t, rotation(128, 100), rotation(128, 100), rotation(128, 72), impl.ErrNone)
}

func TestBijectionsOfOtherSizesAreNotComposed(t *testing.T) {
	s := &scatter{132}
	for _, sizes := range [][2]int{{0, 1}, {1, 0}, {1, 2}, {2, 3}, {5, 4}, {0, 128}, {128, 0}, {127, 128}, {128, 127}, {128, 2}} {
		a, b := s.bijection(sizes[0]), s.bijection(sizes[1])
		checkCompose(t, a, b, nil, impl.ErrRange)
		checkCompose(t, fixing(sizes[0]), fixing(sizes[1]), nil, impl.ErrRange)
		// That both are bijections is checked before their sizes.
		for _, other := range append(notBijections(sizes[0]), []int64{1, 1, 1}) {
			checkCompose(t, other, b, nil, impl.ErrInvalid)
			checkCompose(t, b, other, nil, impl.ErrInvalid)
			checkCompose(t, other, other, nil, impl.ErrInvalid)
		}
	}
}

func TestInvertBijection(t *testing.T) {
	s := &scatter{133}
	list := [][]int64{nil}
	for size := range 6 {
		list = append(list, permutationsOf(size)...)
	}
	for size := range 129 {
		list = append(list, s.bijection(size), rotation(size, size/3))
	}
	for _, a := range list {
		inverse, code := impl.InvertBijection(a)
		mustHaveVector(t, fmt.Sprintf("InvertBijection(%v)", a), inverse, code, valueByRules([]int64{-1}, [][]int64{a}, len(a)))
		checkCompose(t, a, inverse, fixing(len(a)), impl.ErrNone)
		checkCompose(t, inverse, a, fixing(len(a)), impl.ErrNone)
	}
	inverse, code := impl.InvertBijection([]int64{1, 2, 0})
	mustHaveVector(t, "InvertBijection({1, 2, 0})", inverse, code, []int64{2, 0, 1})
	for _, a := range slices.Concat(notBijections(1), notBijections(4), notBijections(128)) {
		if inverse, code := impl.InvertBijection(a); len(inverse) != 0 || code != impl.ErrInvalid {
			t.Fatalf("InvertBijection(%v) = %v, %d", a, inverse, code)
		}
	}
}

func TestEvaluateBijections(t *testing.T) {
	s := &scatter{134}
	for _, size := range []int{0, 1, 2, 3, 6, 24, 126, 127, 128} {
		for k := 1; k <= impl.MaxGens; k++ {
			list := s.bijections(k, size)
			for _, length := range []int{0, 1, 2, 3, 5, 20, 63, impl.MaxWord} {
				w := word(s.text(int64(k), length))
				checkEvaluate(t, w, list, valueByRules(w, list, size), impl.ErrNone)
			}
			checkEvaluate(t, times(impl.MaxWord, int64(-k)), list, valueByRules(times(impl.MaxWord, int64(-k)), list, size), impl.ErrNone)
		}
	}
}

// Words of bijections are products, in which the letters go from left to right.
func TestEvaluateBijectionsComposes(t *testing.T) {
	s := &scatter{135}
	for _, size := range []int{0, 1, 2, 5, 60, 128} {
		list := s.bijections(3, size)
		for range 20 {
			left, right := word(s.text(3, 1+int(s.below(32)))), word(s.text(3, 1+int(s.below(32))))
			a, _ := impl.EvaluateBijections(left, list)
			b, _ := impl.EvaluateBijections(right, list)
			product, code := impl.EvaluateBijections(slices.Concat(left, right), list)
			if code != impl.ErrNone {
				t.Fatalf("EvaluateBijections(%v, %v) has the code %d", slices.Concat(left, right), list, code)
			}
			checkCompose(t, a, b, product, impl.ErrNone)
			inverse, code := impl.InvertBijection(product)
			mustHaveVector(t, fmt.Sprintf("InvertBijection(%v)", product), inverse, code, valueByRules(inverseByRules(slices.Concat(left, right)), list, size))
		}
	}
}

func TestEvaluateBijectionsCases(t *testing.T) {
	ab := [][]int64{{1, 2, 0}, {1, 0, 2}}
	six := slices.Repeat([][]int64{{1, 2, 0}}, 6)
	none := [][]int64{nil, {}, nil}
	for _, c := range []struct {
		w    []int64
		list [][]int64
		want []int64
		code int64
	}{
		{[]int64{1, 1, -2}, ab, []int64{2, 1, 0}, impl.ErrNone}, {nil, ab, []int64{0, 1, 2}, impl.ErrNone}, {[]int64{}, ab[:1], []int64{0, 1, 2}, impl.ErrNone}, {[]int64{1, 2}, ab, []int64{0, 2, 1}, impl.ErrNone}, {[]int64{2, 1}, ab, []int64{2, 1, 0}, impl.ErrNone}, {[]int64{-1}, ab, []int64{2, 0, 1}, impl.ErrNone},
		{nil, none, nil, impl.ErrNone}, {[]int64{1, -3, 2}, none, nil, impl.ErrNone}, {[]int64{1}, [][]int64{{0}}, []int64{0}, impl.ErrNone}, {[]int64{4}, none, nil, impl.ErrInvalid}, {[]int64{0}, none, nil, impl.ErrInvalid},
		{[]int64{6, -5, 4}, six, []int64{1, 2, 0}, impl.ErrNone}, {times(64, 6), six, []int64{1, 2, 0}, impl.ErrNone}, {times(65, 6), six, nil, impl.ErrInvalid}, {nil, append(six, six[0]), nil, impl.ErrInvalid}, {[]int64{1}, append(six, six[0]), nil, impl.ErrInvalid}, {[]int64{7}, append(six, six[0]), nil, impl.ErrInvalid}, {nil, slices.Repeat(six, 10000), nil, impl.ErrInvalid},
		{nil, nil, nil, impl.ErrInvalid}, {nil, [][]int64{}, nil, impl.ErrInvalid}, {[]int64{1}, nil, nil, impl.ErrInvalid},
		{[]int64{3}, ab, nil, impl.ErrInvalid}, {[]int64{-3}, ab, nil, impl.ErrInvalid}, {[]int64{0}, ab, nil, impl.ErrInvalid}, {[]int64{2}, ab[:1], nil, impl.ErrInvalid}, {[]int64{1, math.MinInt64}, ab, nil, impl.ErrInvalid}, {[]int64{math.MaxInt64}, ab, nil, impl.ErrInvalid},
		{[]int64{1}, [][]int64{{0, 1}, {0, 1, 2}}, nil, impl.ErrInvalid}, {[]int64{1}, [][]int64{{0, 1, 2}, {0, 1}}, nil, impl.ErrInvalid}, {nil, [][]int64{{0}, nil}, nil, impl.ErrInvalid}, {nil, [][]int64{nil, {0}}, nil, impl.ErrInvalid}, {nil, [][]int64{fixing(128), fixing(127)}, nil, impl.ErrInvalid},
		{nil, [][]int64{fixing(128)}, fixing(128), impl.ErrNone}, {nil, [][]int64{fixing(129)}, nil, impl.ErrInvalid}, {[]int64{1}, [][]int64{rotation(128, 1)}, rotation(128, 1), impl.ErrNone}, {[]int64{1}, [][]int64{rotation(129, 1)}, nil, impl.ErrInvalid},
	} {
		checkEvaluate(t, c.w, c.list, c.want, c.code)
	}
}

func TestOtherListsAreNotEvaluated(t *testing.T) {
	s := &scatter{136}
	for _, size := range []int{1, 3, 128} {
		for k := range impl.MaxGens {
			for i, a := range notBijections(size) {
				list := s.bijections(k, size)
				checkEvaluate(t, nil, slices.Insert(list, i%(k+1), a), nil, impl.ErrInvalid)
			}
			for _, w := range invalidWords(int64(k) + 1) {
				checkEvaluate(t, w, s.bijections(k+1, size), nil, impl.ErrInvalid)
			}
		}
	}
}

// realisationByRules has the numbers of the products by the generators, as they are in an enumeration of the group.
func (g knownGroup) realisationByRules() [][]int64 {
	list := make([][]int64, len(g.orders))
	for _, x := range vectorsInOrder(g.orders) {
		for i := range list {
			list[i] = append(list[i], numberByRules(g.orders, g.vector(append(wordByRules(x), int64(i)+1))))
		}
	}
	return list
}

// renamed gives each index t the name names[t].
func renamed(list [][]int64, names []int64) [][]int64 {
	var others [][]int64
	for _, a := range list {
		other := make([]int64, len(a))
		for t, image := range a {
			other[names[t]] = names[image]
		}
		others = append(others, other)
	}
	return others
}

// exchanged has two images of one bijection exchanged.
func (s *scatter) exchanged(list [][]int64) [][]int64 {
	others := rowsCloned(list)
	a := others[s.below(int64(len(list)))]
	size := int64(len(a))
	first := s.below(size)
	second := (first + 1 + s.below(size-1)) % size
	a[first], a[second] = a[second], a[first]
	return others
}

func TestRegularRealisations(t *testing.T) {
	s := &scatter{137}
	small, large := 0, 0
	for _, g := range knownGroups(t, s) {
		list, code := impl.RegularRealisation(g.p)
		if g.order() > 128 {
			if len(list) != 0 || code != impl.ErrLimit {
				t.Fatalf("RegularRealisation(%v) = %v, %d", g.p, list, code)
			}
			checkRealisation(t, g.p, list, false, impl.ErrLimit)
			large++
			continue
		}
		if want := g.realisationByRules(); !sameRows(list, want) || code != impl.ErrNone {
			t.Fatalf("RegularRealisation(%v) = %v, %d, not %v", g.p, list, code, want)
		}
		checkRealisation(t, g.p, list, true, impl.ErrNone)
		checkRealisation(t, g.p, renamed(list, s.bijection(int(g.order()))), true, impl.ErrNone)
		small++
	}
	if small < 250 || large < 30 {
		t.Errorf("%d groups are within the limit, and %d are not", small, large)
	}
}

func TestRealisationsOfAbelianGroups(t *testing.T) {
	for _, orders := range orderLists() {
		p := abelianByRules(orders)
		list, code := impl.RegularRealisation(p)
		if orderByRules(orders) > 128 {
			if len(list) != 0 || code != impl.ErrLimit {
				t.Fatalf("RegularRealisation of the abelian group with the orders %v = %v, %d", orders, list, code)
			}
			checkRealisation(t, p, nil, false, impl.ErrLimit)
			continue
		}
		var want [][]int64
		for i, order := range orders {
			var a []int64
			for _, x := range vectorsInOrder(orders) {
				x[i] = (x[i] + 1) % order
				a = append(a, numberByRules(orders, x))
			}
			want = append(want, a)
		}
		if !sameRows(list, want) || code != impl.ErrNone {
			t.Fatalf("RegularRealisation of the abelian group with the orders %v = %v, %d, not %v", orders, list, code, want)
		}
		checkRealisation(t, p, list, true, impl.ErrNone)
	}
}

func TestRealisationCases(t *testing.T) {
	for _, c := range []struct {
		text string
		list [][]int64
	}{
		{"1", nil}, {"2", [][]int64{{1, 0}}}, {"5", [][]int64{rotation(5, 1)}}, {"7", [][]int64{rotation(7, 1)}},
		{"2 2", [][]int64{{2, 3, 0, 1}, {1, 0, 3, 2}}}, {"2 2; a^2=b", [][]int64{{2, 3, 1, 0}, {1, 0, 3, 2}}},
		{"2 3", [][]int64{{3, 4, 5, 0, 1, 2}, {1, 2, 0, 4, 5, 3}}}, {"2 3; b^a=bb", [][]int64{{3, 5, 4, 0, 2, 1}, {1, 2, 0, 4, 5, 3}}},
		{"2 2 2; a^2=c; b^2=c; b^a=bc", [][]int64{{4, 5, 7, 6, 1, 0, 2, 3}, {2, 3, 1, 0, 6, 7, 5, 4}, {1, 0, 3, 2, 5, 4, 7, 6}}},
	} {
		p := mustParse(t, c.text)
		if list := mustHaveRealisation(t, p); !sameRows(list, c.list) {
			t.Errorf("for %q, RegularRealisation = %v, not %v", c.text, list, c.list)
		}
		checkRealisation(t, p, c.list, true, impl.ErrNone)
	}
	for _, c := range []struct {
		text string
		list [][]int64
		want bool
	}{
		{"1", [][]int64{}, true}, {"1", [][]int64{{0}}, false}, {"1", [][]int64{nil}, false}, {"1", [][]int64{{1}}, false},
		{"2", [][]int64{{0, 1}}, false}, {"2", nil, false}, {"2", [][]int64{nil}, false}, {"2", [][]int64{{1, 0}, {1, 0}}, false}, {"2", [][]int64{{0}}, false}, {"2", [][]int64{{1, 0, 2}}, false}, {"2", [][]int64{{1, 1}}, false}, {"2", [][]int64{{1, 2}}, false}, {"2", [][]int64{{0, 0}}, false}, {"2", [][]int64{{257, 256}}, false}, {"2", [][]int64{{1, -256}}, false},
		{"3", [][]int64{{1, 2, 0}}, true}, {"3", [][]int64{{2, 0, 1}}, true}, {"3", [][]int64{{1, 0, 2}}, false}, {"3", [][]int64{{0, 2, 1}}, false}, {"3", [][]int64{{0, 1, 2}}, false},
		{"2 2", [][]int64{{1, 0, 3, 2}, {1, 0, 3, 2}}, false}, {"2 2", [][]int64{{3, 2, 1, 0}, {1, 0, 3, 2}}, true}, {"2 2", [][]int64{{1, 0, 2, 3}, {0, 1, 3, 2}}, false}, {"2 2", [][]int64{{2, 3, 1, 0}, {1, 0, 3, 2}}, false}, {"2 2; a^2=b", [][]int64{{3, 2, 0, 1}, {1, 0, 3, 2}}, true}, {"2 2; a^2=b", [][]int64{{2, 3, 0, 1}, {1, 0, 3, 2}}, false},
		{"2 3; b^a=bb", [][]int64{{3, 4, 5, 0, 1, 2}, {1, 2, 0, 4, 5, 3}}, false}, {"2 3", [][]int64{{3, 5, 4, 0, 2, 1}, {1, 2, 0, 4, 5, 3}}, false}, {"2 3", [][]int64{{3, 4, 5, 0, 1, 2}, {1, 2, 0, 3, 4, 5}}, false},
		// Two bijections generate a group with a single orbit, but not that of the presentation.
		{"2 3; b^a=bb", [][]int64{{1, 0, 3, 2, 5, 4}, {2, 3, 4, 5, 0, 1}}, false},
	} {
		checkRealisation(t, mustParse(t, c.text), c.list, c.want, impl.ErrNone)
	}
}

// All lists of bijections of a size of at most 4, and others that are nearly that.
func TestAllListsOfSmallSizes(t *testing.T) {
	found := 0
	for _, p := range smallPresentations() {
		size := int(orderByRules(p.Orders))
		if size > 4 && len(p.Orders) > 1 {
			continue
		}
		permutations := permutationsOf(size)
		for _, choice := range allVectors(int64(len(permutations)), len(p.Orders)) {
			var list [][]int64
			for _, c := range choice {
				list = append(list, permutations[c])
			}
			found += checkAgainstRules(t, p, list)
		}
	}
	if found < 500 {
		t.Errorf("only %d lists are realisations", found)
	}
}

// checkAgainstRules returns 1 for a realisation. Promise 10 has to hold then: its presentation is consistent.
func checkAgainstRules(t *testing.T, p impl.Presentation, list [][]int64) int {
	t.Helper()
	is := isRealisationByRules(p, list)
	checkRealisation(t, p, list, is, impl.ErrNone)
	if !is {
		return 0
	}
	if !impl.IsConsistent(p) {
		t.Fatalf("%v has the regular realisation %v, and is not consistent", p, list)
	}
	return 1
}

// One bijection of each kind for the generator of order 3, and all bijections for the other one.
func TestAllListsOfSizeSix(t *testing.T) {
	found, others := 0, 0
	for _, p := range slices.Concat(allPresentations([]int64{2, 3}), allPresentations([]int64{3, 2})) {
		three := slices.Index(p.Orders, 3)
		for _, b := range [][]int64{{0, 1, 2, 3, 4, 5}, {1, 2, 0, 3, 4, 5}, {1, 2, 0, 4, 5, 3}, {1, 2, 0, 5, 3, 4}} {
			for _, a := range permutationsOf(6) {
				list := [][]int64{a, a}
				list[three] = b
				is := checkAgainstRules(t, p, list)
				found += is
				others += 1 - is
			}
		}
	}
	if found < 20 || others < 30000 {
		t.Errorf("%d lists are realisations, and %d are not", found, others)
	}
}

// Bijections that belong together for one presentation, for all others with the same orders.
func TestRealisationsOfOtherPresentations(t *testing.T) {
	s := &scatter{138}
	found, mixed := 0, 0
	for _, orders := range [][]int64{{2, 2, 2}, {3, 2, 2}, {2, 3, 2}, {2, 2, 3}, {3, 3}, {5, 2}, {2, 5}, {2, 7}, {3, 7}} {
		var known [][][]int64
		for _, p := range allPresentations(orders) {
			if impl.IsConsistent(p) {
				known = append(known, mustHaveRealisation(t, p))
			}
		}
		for _, p := range allPresentations(orders) {
			for _, list := range known {
				found += checkAgainstRules(t, p, list)
			}
			for range 20 {
				var mixture [][]int64
				for i := range orders {
					mixture = append(mixture, known[s.below(int64(len(known)))][i])
				}
				mixed += checkAgainstRules(t, p, mixture)
			}
		}
	}
	if found < 90 || mixed < 100 {
		t.Errorf("%d lists are realisations, and %d mixtures", found, mixed)
	}
}

// withinLimit keeps the presentations whose orders are at most MaxElements.
func withinLimit(list []impl.Presentation) []impl.Presentation {
	return slices.DeleteFunc(list, func(p impl.Presentation) bool { return orderByRules(p.Orders) > 128 })
}

// A group that is smaller than it should be has a list of the right size for which all relations hold: it acts on its
// elements as often as they fit in.
func (g groupTable) copies(size int) [][]int64 {
	count := int(g.count())
	at := map[int]int64{}
	for _, element := range slices.Sorted(mapKeys(g.vectors)) {
		at[element] = int64(len(at))
	}
	var list [][]int64
	for i := range g.orders {
		a := make([]int64, size)
		for element, t := range at {
			for copied := 0; copied < size; copied += count {
				a[copied+int(t)] = int64(copied) + at[g.next[element][columnOf(int64(i)+1)]]
			}
		}
		list = append(list, a)
	}
	return list
}

func mapKeys(values map[int][]int64) func(yield func(int) bool) {
	return func(yield func(int) bool) {
		for key := range values {
			if !yield(key) {
				return
			}
		}
	}
}

// Promises 1 and 10: exactly the consistent presentations have regular realisations.
func TestPresentationsWithRealisationsAreConsistent(t *testing.T) {
	s := &scatter{139}
	list := smallPresentations()
	for i, p := range withinLimit(slices.Concat(samplePresentations(s), changedPresentations(t, s))) {
		if i%7 == 0 {
			list = append(list, p)
		}
	}
	groups, others := 0, 0
	for _, p := range list {
		g := groupTableOf(t, p)
		size := int(orderByRules(p.Orders))
		copies := g.copies(size)
		checkRealisation(t, p, copies, g.isFull(), impl.ErrNone)
		checkRealisation(t, p, renamed(copies, s.bijection(size)), g.isFull(), impl.ErrNone)
		regular, code := impl.RegularRealisation(p)
		if !g.isFull() {
			if len(regular) != 0 || code != impl.ErrInvalid {
				t.Fatalf("RegularRealisation(%v) = %v, %d", p, regular, code)
			}
			others++
			continue
		}
		checkRealisation(t, p, regular, true, impl.ErrNone)
		groups++
	}
	if groups < 200 || others < 1000 {
		t.Errorf("there are %d groups, and %d other presentations", groups, others)
	}
}

// A realisation for a presentation with one other number, and others for which few relations do not hold.
func TestChangedRealisations(t *testing.T) {
	s := &scatter{140}
	kept := 0
	for _, p := range withinLimit(consistentPresentations(t, s)) {
		list := mustHaveRealisation(t, p)
		for _, q := range otherEntries(p) {
			if isPresentationByRules(q) && slices.Equal(q.Orders, p.Orders) && s.below(3) == 0 {
				kept += checkAgainstRules(t, q, list)
			}
		}
		for range 3 * len(p.Orders) {
			checkAgainstRules(t, p, s.exchanged(list))
		}
		for i, a := range list {
			other := rowsCloned(list)
			other[i] = fixing(len(a))
			checkAgainstRules(t, p, other)
			other[i] = valueByRules([]int64{-1}, [][]int64{a}, len(a))
			kept += checkAgainstRules(t, p, other)
		}
	}
	if kept < 50 {
		t.Errorf("only %d lists are realisations", kept)
	}
}

// Lists that are no lists of n bijections of the size of the group.
func TestOtherListsAreNoRealisations(t *testing.T) {
	s := &scatter{141}
	for _, p := range withinLimit(consistentPresentations(t, s)) {
		list, size := mustHaveRealisation(t, p), int(orderByRules(p.Orders))
		checkRealisation(t, p, append(rowsCloned(list), fixing(size)), false, impl.ErrNone)
		checkRealisation(t, p, append(rowsCloned(list), nil), false, impl.ErrNone)
		checkRealisation(t, p, slices.Repeat([][]int64{fixing(size)}, 10000), false, impl.ErrNone)
		for i := range list {
			checkRealisation(t, p, list[:i], false, impl.ErrNone)
			checkRealisation(t, p, list[i+1:], false, impl.ErrNone)
			for _, a := range [][]int64{nil, {0}, p.Orders, fixing(size - 1), list[i][1:], append(slices.Clone(list[i]), int64(size)), fixing(1000)} {
				other := rowsCloned(list)
				other[i] = a
				checkAgainstRules(t, p, other)
			}
			for range 4 {
				other := rowsCloned(list)
				at := s.below(int64(size))
				other[i][at] = []int64{-1, int64(size), other[i][(at+1)%int64(size)], other[i][at] + 128, other[i][at] + 256, other[i][at] - 1<<32, math.MinInt64, math.MaxInt64}[s.below(8)]
				checkRealisation(t, p, other, false, impl.ErrNone)
			}
		}
		checkRealisation(t, p, renamed(list, rotation(size, size/2)), true, impl.ErrNone)
		if len(list) > 0 {
			longer := rowsCloned(list)
			for i := range longer {
				longer[i] = append(longer[i], int64(size))
			}
			checkRealisation(t, p, longer, false, impl.ErrNone)
		}
	}
}

// someLists are lists that are realisations of some presentations, and lists that are none.
func someLists() [][][]int64 {
	return [][][]int64{nil, {}, {nil}, {{0}}, {{1, 0}}, {{1, 1}}, {{2, 3, 0, 1}, {1, 0, 3, 2}}, slices.Repeat([][]int64{fixing(128)}, 6), slices.Repeat([][]int64{fixing(129)}, 7)}
}

func TestInvalidPresentationsHaveNoRealisations(t *testing.T) {
	for _, p := range invalidPresentations(&scatter{142}) {
		if list, code := impl.RegularRealisation(p); len(list) != 0 || code != impl.ErrInvalid {
			t.Fatalf("RegularRealisation(%v) = %v, %d", p, list, code)
		}
		for _, list := range someLists() {
			checkRealisation(t, p, list, false, impl.ErrInvalid)
		}
	}
}

// Beyond the limit, whether a presentation is a group is checked first, and no list is looked at.
func TestRealisationsBeyondTheLimit(t *testing.T) {
	s := &scatter{143}
	groups, others := 0, 0
	for i, p := range slices.Concat(consistentPresentations(t, s), samplePresentations(s)) {
		if orderByRules(p.Orders) <= 128 {
			continue
		}
		for _, list := range someLists() {
			checkRealisation(t, p, list, false, impl.ErrLimit)
		}
		if i%5 > 0 && len(p.Orders) > 2 {
			continue
		}
		wantCode := int64(impl.ErrInvalid)
		if groupTableOf(t, p).isFull() {
			wantCode = impl.ErrLimit
			groups++
		} else {
			others++
		}
		if list, code := impl.RegularRealisation(p); len(list) != 0 || code != wantCode {
			t.Fatalf("RegularRealisation(%v) = %v, %d, not %d", p, list, code, wantCode)
		}
	}
	if groups < 50 || others < 300 {
		t.Errorf("there are %d groups, and %d other presentations", groups, others)
	}
}

// realisationCalls have all functions of the chapter, each with the claim to the memory of its result.
func realisationCalls(p impl.Presentation, w []int64, list [][]int64) map[string]func(owned map[any]bool) (string, bool) {
	vector := func(call func() ([]int64, int64)) func(map[any]bool) (string, bool) {
		return func(owned map[any]bool) (string, bool) {
			v, code := call()
			return fmt.Sprint(v, code), claim(owned, v)
		}
	}
	calls := map[string]func(map[any]bool) (string, bool){
		"EvaluateBijections":    vector(func() ([]int64, int64) { return impl.EvaluateBijections(w, list) }),
		"a word of one letter":  vector(func() ([]int64, int64) { return impl.EvaluateBijections([]int64{1}, list) }),
		"a word with no letter": vector(func() ([]int64, int64) { return impl.EvaluateBijections(nil, list) }),
		"RegularRealisation": func(owned map[any]bool) (string, bool) {
			regular, code := impl.RegularRealisation(p)
			return fmt.Sprint(regular, code), claimRows(owned, regular)
		},
		"IsRealisation": func(map[any]bool) (string, bool) {
			return fmt.Sprint(impl.IsRealisation(p, list)), true
		},
	}
	if len(list) > 0 {
		a, b := list[0], list[len(list)-1]
		calls["ComposeBijections"] = vector(func() ([]int64, int64) { return impl.ComposeBijections(a, b) })
		calls["the composition with an identity"] = vector(func() ([]int64, int64) { return impl.ComposeBijections(a, fixing(len(a))) })
		calls["InvertBijection"] = vector(func() ([]int64, int64) { return impl.InvertBijection(a) })
		calls["IsBijection"] = func(map[any]bool) (string, bool) { return fmt.Sprint(impl.IsBijection(a)), true }
	}
	return calls
}

func checkRealisationMemory(t *testing.T, p impl.Presentation, w []int64, list [][]int64) {
	t.Helper()
	p, w, list = roomyPresentation(p), roomy(w), roomyRows(list)
	claimArguments := func(owned map[any]bool) {
		claimPresentation(owned, p)
		claimRows(owned, list)
		claim(owned, w)
	}
	contents := func() string { return fullContent(p) + fmt.Sprint(fullVector(w)) + fullRows(list) }
	checkCalls(t, realisationCalls(p, w, list), claimArguments, contents)
}

func TestRealisationArgumentsStayAndResultsAreNew(t *testing.T) {
	s := &scatter{144}
	for _, p := range withinLimit(consistentPresentations(t, s)) {
		list := mustHaveRealisation(t, p)
		checkRealisationMemory(t, p, []int64{1, -1}, list)
		checkRealisationMemory(t, p, []int64{1, -2, 2}, append(rowsCloned(list), []int64{1, 1}))
	}
	for i, p := range append(samplePresentations(s), invalidPresentations(s)...) {
		if i%60 == 0 && len(p.Orders) < 10 {
			checkRealisationMemory(t, p, []int64{1, -2}, s.bijections(len(p.Orders), 6))
			checkRealisationMemory(t, p, nil, [][]int64{fixing(128), rotation(128, 3), fixing(5), {2, 0}})
		}
	}
}
