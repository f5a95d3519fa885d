package tests

import (
	"fmt"
	"math"
	"slices"
	"testing"

	"loop.example/g01076/impl"
)

// outsideExponents are beyond the limits, and some are not if cut to 32 bits or less.
var outsideExponents = []int64{math.MinInt64, math.MinInt64 + 1, -1<<32 - 1, -1 << 32, -1000001, 1000001, 1 << 32, 1<<32 + 1, math.MaxInt64}

// operationsOfTwo are the functions of two elements, with the words that they stand for.
var operationsOfTwo = []struct {
	name string
	call func(p impl.Presentation, x []int64, y []int64) ([]int64, int64)
	word func(x []int64, y []int64) []int64
}{
	{"Multiply", impl.Multiply, func(x []int64, y []int64) []int64 { return slices.Concat(x, y) }},
	{"Conjugate", impl.Conjugate, func(x []int64, y []int64) []int64 { return slices.Concat(inverseByRules(y), x, y) }},
	{"Commutator", impl.Commutator, func(x []int64, y []int64) []int64 {
		return slices.Concat(inverseByRules(x), inverseByRules(y), x, y)
	}},
}

// knownGroup is a group by a presentation and by an enumeration of its elements.
type knownGroup struct {
	groupTable
	p impl.Presentation
}

// knownGroups are full by their enumerations.
func knownGroups(t *testing.T, s *scatter) []knownGroup {
	t.Helper()
	var list []knownGroup
	for _, p := range append(smallPresentations(), consistentPresentations(t, s)...) {
		if g := groupTableOf(t, p); g.isFull() {
			list = append(list, knownGroup{g, p})
		}
	}
	return list
}

func (g knownGroup) order() int64 { return orderByRules(g.orders) }

func (g knownGroup) identity() []int64 { return make([]int64, len(g.orders)) }

// power goes all the way, step by step.
func (g knownGroup) power(x []int64, k int64) []int64 {
	w, at := wordByRules(x), 0
	if k < 0 {
		w, k = inverseByRules(w), -k
	}
	for range k {
		for _, letter := range w {
			at = g.next[at][columnOf(letter)]
		}
	}
	return g.vectors[at]
}

func (g knownGroup) orderOf(x []int64) int64 {
	w, order := wordByRules(x), int64(1)
	for at := g.element(w); at != g.element(nil); order++ {
		for _, letter := range w {
			at = g.next[at][columnOf(letter)]
		}
	}
	return order
}

func numberByRules(orders []int64, e []int64) int64 {
	number := int64(0)
	for i, exponent := range e {
		number += exponent * orderByRules(orders[i+1:])
	}
	return number
}

func (s *scatter) element(orders []int64) []int64 {
	var e []int64
	for _, order := range orders {
		e = append(e, s.below(order))
	}
	return e
}

// elementsIn are all elements, or some and the first and the last one where there are more than most.
func elementsIn(s *scatter, g knownGroup, most int64) [][]int64 {
	if g.order() <= most {
		return vectorsBelow(g.orders)
	}
	last := slices.Clone(g.orders)
	for i := range last {
		last[i]--
	}
	list := [][]int64{g.identity(), last}
	for range most {
		list = append(list, s.element(g.orders))
	}
	return list
}

func mustHaveVector(t *testing.T, call string, got []int64, code int64, want []int64) {
	t.Helper()
	if !slices.Equal(got, want) || code != impl.ErrNone {
		t.Fatalf("%s = %v, %d, not %v", call, got, code, want)
	}
}

func product(t *testing.T, p impl.Presentation, factors ...[]int64) []int64 {
	t.Helper()
	result := make([]int64, len(p.Orders))
	for _, factor := range factors {
		next, code := impl.Multiply(p, result, factor)
		if code != impl.ErrNone {
			t.Fatalf("Multiply(%v, %v, %v) has the code %d", p, result, factor, code)
		}
		result = next
	}
	return result
}

func power(t *testing.T, p impl.Presentation, x []int64, k int64) []int64 {
	t.Helper()
	result, code := impl.Power(p, x, k)
	if code != impl.ErrNone {
		t.Fatalf("Power(%v, %v, %d) has the code %d", p, x, k, code)
	}
	return result
}

func TestOperationsAreThoseOfTheGroup(t *testing.T) {
	s := &scatter{110}
	for _, g := range knownGroups(t, s) {
		pairs := pairsOf(s, g.orders)
		for _, pair := range pairs[:min(len(pairs), 80)] {
			x, y := pair[0], pair[1]
			for _, o := range operationsOfTwo {
				v, code := o.call(g.p, x, y)
				mustHaveVector(t, fmt.Sprintf("%s(%v, %v, %v)", o.name, g.p, x, y), v, code, g.vector(o.word(wordByRules(x), wordByRules(y))))
			}
		}
	}
}

// Every pair of elements, for some groups.
func TestOperationsOfAllPairs(t *testing.T) {
	for _, text := range []string{"1", "7", "2 3; b^a=bb", "2 2 2; a^2=c; b^2=c; b^a=bc", "3 2 2; b^a=c; c^a=bc", "3 7; b^a=bb", "2 3 2 2; b^a=bb; c^a=d; d^a=c; c^b=d; d^b=cd", "3 3 3; b^a=bc", "2 2 2 2 2; b^a=be; d^c=de"} {
		p := mustParse(t, text)
		g := knownGroup{groupTableOf(t, p), p}
		for _, x := range vectorsBelow(g.orders) {
			for _, y := range vectorsBelow(g.orders) {
				for _, o := range operationsOfTwo {
					v, code := o.call(p, x, y)
					mustHaveVector(t, fmt.Sprintf("for %q, %s(%v, %v)", text, o.name, x, y), v, code, g.vector(o.word(wordByRules(x), wordByRules(y))))
				}
			}
		}
	}
}

func checkTriple(t *testing.T, p impl.Presentation, x []int64, y []int64, z []int64) {
	t.Helper()
	if left, right := product(t, p, product(t, p, x, y), z), product(t, p, x, product(t, p, y, z)); !slices.Equal(left, right) {
		t.Fatalf("for %v, (%v %v) %v is %v, and %v (%v %v) is %v", p, x, y, z, left, x, y, z, right)
	}
}

func checkNeutral(t *testing.T, p impl.Presentation, x []int64) {
	t.Helper()
	identity := make([]int64, len(p.Orders))
	inverse, code := impl.Inverse(p, x)
	if code != impl.ErrNone || !isBounded(inverse, p.Orders) {
		t.Fatalf("Inverse(%v, %v) = %v, %d", p, x, inverse, code)
	}
	for _, c := range []struct{ a, b, want []int64 }{{identity, x, x}, {x, identity, x}, {inverse, x, identity}, {x, inverse, identity}} {
		v, code := impl.Multiply(p, c.a, c.b)
		mustHaveVector(t, fmt.Sprintf("Multiply(%v, %v, %v)", p, c.a, c.b), v, code, c.want)
	}
}

// checkLaws has all triples of few elements, and some of many.
func checkLaws(t *testing.T, s *scatter, p impl.Presentation) {
	t.Helper()
	if orderByRules(p.Orders) <= 8 {
		for _, x := range vectorsBelow(p.Orders) {
			checkNeutral(t, p, x)
			for _, pair := range pairsOf(s, p.Orders) {
				checkTriple(t, p, x, pair[0], pair[1])
			}
		}
		return
	}
	for range 20 {
		x := s.element(p.Orders)
		checkNeutral(t, p, x)
		checkTriple(t, p, x, s.element(p.Orders), s.element(p.Orders))
	}
}

// Promise 1: where the collections keep the limits, the pairs join exactly if there are elements, and then the laws hold.
func TestPairsJoinExactlyIfThereIsAGroup(t *testing.T) {
	s := &scatter{111}
	list := slices.Concat(smallPresentations(), collectedPresentations(t, s))
	for i, p := range changedPresentations(t, s) {
		if len(p.Orders) < 3 || i%40 == 0 {
			list = append(list, p)
		}
	}
	groups, others := 0, 0
	for _, p := range list {
		k, pairCode := impl.CriticalPairsJoin(p, impl.MaxSteps)
		zero := make([]int64, len(p.Orders))
		isGroup := impl.IsElement(p, zero)
		if pairCode == impl.ErrNone && isGroup != (k < 0) {
			t.Fatalf("CriticalPairsJoin(%v) = %d, and IsElement of %v is %v", p, k, zero, isGroup)
		}
		if isGroup != impl.IsConsistent(p) {
			t.Fatalf("IsElement(%v, %v) is %v, and IsConsistent is %v", p, zero, isGroup, impl.IsConsistent(p))
		}
		if !isGroup {
			checkNoGroup(t, p)
			others++
			continue
		}
		checkLaws(t, s, p)
		groups++
	}
	if groups < 500 || others < 1000 {
		t.Errorf("there are %d groups, and %d other presentations", groups, others)
	}
}

// Promise 1, for the products of the collector, which stands on other rules.
func TestProductsAreCollected(t *testing.T) {
	s := &scatter{112}
	kept := 0
	for _, g := range knownGroups(t, s) {
		for range 10 {
			x, y := s.element(g.orders), s.element(g.orders)
			want, code := impl.CollectProduct(g.p, x, y, impl.MaxSteps)
			if code == impl.ErrLimit {
				continue
			}
			v, code := impl.Multiply(g.p, x, y)
			mustHaveVector(t, fmt.Sprintf("Multiply(%v, %v, %v)", g.p, x, y), v, code, want)
			kept++
		}
	}
	if kept < 3000 {
		t.Errorf("only %d products keep the limits", kept)
	}
}

func TestInverses(t *testing.T) {
	s := &scatter{113}
	for _, g := range knownGroups(t, s) {
		for _, x := range elementsIn(s, g, 64) {
			v, code := impl.Inverse(g.p, x)
			mustHaveVector(t, fmt.Sprintf("Inverse(%v, %v)", g.p, x), v, code, g.vector(inverseByRules(wordByRules(x))))
		}
	}
}

func TestPowersGoStepByStep(t *testing.T) {
	s := &scatter{114}
	for _, g := range knownGroups(t, s) {
		for _, x := range elementsIn(s, g, 8) {
			for _, k := range []int64{-731, -100, -13, -9, -8, -7, -6, -5, -4, -3, -2, -1, 0, 1, 2, 3, 4, 5, 6, 7, 8, 9, 13, 100, g.order() - 1, g.order(), g.order() + 1, -g.order(), -g.order() - 1, 1 - g.order()} {
				v, code := impl.Power(g.p, x, k)
				mustHaveVector(t, fmt.Sprintf("Power(%v, %v, %d)", g.p, x, k), v, code, g.power(x, k))
			}
		}
	}
}

// The greatest exponents and those just beyond them.
func TestExponentsAtTheLimits(t *testing.T) {
	s := &scatter{115}
	for _, text := range []string{"1", "2", "7", "3 2; a^3=b", "2 3; b^a=bb", "2 2 2; a^2=c; b^2=c; b^a=bc", "7 7 7; a^7=c; b^a=bc", "3 3 3 3 3 3; a^3=b; b^3=c; c^3=d; d^3=e; e^3=f", "2 2 2 2 5 7; a^2=b; e^a=ee; f^a=ffffff; e^b=eeee; f^c=ffffff"} {
		p := mustParse(t, text)
		g := knownGroup{groupTableOf(t, p), p}
		x := elementsIn(s, g, 1)[1%g.order()]
		for _, k := range []int64{-1000000, -999999, 999999, 1000000} {
			v, code := impl.Power(p, x, k)
			mustHaveVector(t, fmt.Sprintf("for %q, Power(%v, %d)", text, x, k), v, code, g.power(x, k))
		}
		for _, k := range outsideExponents {
			checkPowerCode(t, p, x, k, impl.ErrRange)
		}
	}
}

// exponentPairs have sums of all signs, at the limits too.
func exponentPairs(s *scatter) [][2]int64 {
	list := [][2]int64{{0, 0}, {1, 1}, {-1, 1}, {2, -3}, {1000000, 0}, {1000000, -1000000}, {-1000000, 999999}, {500000, 500000}, {-999999, -1}}
	for range 4 {
		list = append(list, [2]int64{s.signed(12), s.signed(12)}, [2]int64{s.signed(500000), s.signed(500000)})
	}
	return list
}

// The first part of promise 9.
func TestPowersOfElementsAddTheirExponents(t *testing.T) {
	s := &scatter{116}
	for _, g := range knownGroups(t, s) {
		for _, x := range elementsIn(s, g, 3) {
			for _, pair := range exponentPairs(s) {
				k, l := pair[0], pair[1]
				if sum, want := power(t, g.p, x, k+l), product(t, g.p, power(t, g.p, x, k), power(t, g.p, x, l)); !slices.Equal(sum, want) {
					t.Fatalf("for %v, the power of %v with the exponent %d is %v, and not %v as with %d and %d", g.p, x, k+l, sum, want, k, l)
				}
			}
			inverse, _ := impl.Inverse(g.p, x)
			for k, want := range [][]int64{inverse, g.identity(), x} {
				v, code := impl.Power(g.p, x, int64(k)-1)
				mustHaveVector(t, fmt.Sprintf("Power(%v, %v, %d)", g.p, x, k-1), v, code, want)
			}
		}
	}
}

// The second part of promise 9.
func TestOrdersOfElements(t *testing.T) {
	s := &scatter{117}
	for _, g := range knownGroups(t, s) {
		for _, x := range elementsIn(s, g, 64) {
			order, code := impl.ElementOrder(g.p, x)
			if order != g.orderOf(x) || g.order()%order != 0 || code != impl.ErrNone {
				t.Fatalf("ElementOrder(%v, %v) = %d, %d, not %d", g.p, x, order, code, g.orderOf(x))
			}
			if v := power(t, g.p, x, order); !isZero(v) {
				t.Fatalf("for %v, the order of %v is %d, and its power %v", g.p, x, order, v)
			}
		}
	}
}

func TestOrdersInCyclicGroups(t *testing.T) {
	for n := range int64(impl.MaxOrder + 1) {
		p, code := impl.CyclicPresentation(n)
		if code != impl.ErrNone || n == 1 {
			continue
		}
		x := make([]int64, len(p.Orders))
		x[0] = 1
		for _, k := range []int64{0, 1, 2, 3, 6, 35, 64, 728} {
			v := power(t, p, x, k)
			if order, code := impl.ElementOrder(p, v); order != n/gcdOf(n, k) || code != impl.ErrNone {
				t.Fatalf("in the cyclic group of order %d, ElementOrder of the power %v with the exponent %d = %d, %d", n, v, k, order, code)
			}
		}
	}
}

// The third part of promise 9.
func TestNumbersDetermineElements(t *testing.T) {
	s := &scatter{118}
	for _, g := range knownGroups(t, s) {
		if g.order() > 100 && s.below(8) > 0 {
			continue
		}
		for number, e := range vectorsInOrder(g.orders) {
			if n, code := impl.ElementNumber(g.p, e); n != int64(number) || n != numberByRules(g.orders, e) || code != impl.ErrNone {
				t.Fatalf("ElementNumber(%v, %v) = %d, %d, not %d", g.p, e, n, code, number)
			}
			v, code := impl.ElementAt(g.p, int64(number))
			mustHaveVector(t, fmt.Sprintf("ElementAt(%v, %d)", g.p, number), v, code, e)
		}
	}
}

// vectorsInOrder are in ascending lexicographic order.
func vectorsInOrder(orders []int64) [][]int64 {
	list := vectorsBelow(orders)
	slices.SortFunc(list, slices.Compare[[]int64])
	return list
}

func TestNumbersOutside(t *testing.T) {
	s := &scatter{119}
	for _, g := range knownGroups(t, s) {
		for _, number := range []int64{math.MinInt64, -1 << 32, -g.order(), -1, g.order(), g.order() + 1, 730, 1 << 32, 1<<32 + 1, math.MaxInt64} {
			if v, code := impl.ElementAt(g.p, number); len(v) != 0 || code != impl.ErrRange {
				t.Fatalf("ElementAt(%v, %d) = %v, %d", g.p, number, v, code)
			}
		}
	}
}

func (g knownGroup) exponent() int64 {
	exponent := int64(1)
	for _, x := range vectorsBelow(g.orders) {
		order := g.orderOf(x)
		exponent *= order / gcdOf(exponent, order)
	}
	return exponent
}

func TestGroupExponents(t *testing.T) {
	s := &scatter{120}
	small, large := 0, 0
	for _, g := range knownGroups(t, s) {
		want, wantCode := int64(0), int64(impl.ErrLimit)
		if g.order() <= 128 {
			want, wantCode = g.exponent(), impl.ErrNone
			small++
		} else {
			large++
		}
		if exponent, code := impl.GroupExponent(g.p); exponent != want || code != wantCode {
			t.Fatalf("GroupExponent(%v) = %d, %d, not %d, %d", g.p, exponent, code, want, wantCode)
		}
	}
	if small < 250 || large < 30 {
		t.Errorf("%d groups are within the limit, and %d are not", small, large)
	}
}

// Of the orders of presentations, 126 is the last one within the limit, and 135 the first one beyond it.
func TestExponentsOfAbelianGroups(t *testing.T) {
	for _, orders := range orderLists() {
		want, wantCode := int64(1), int64(impl.ErrNone)
		for _, prime := range groupPrimes {
			if slices.Contains(orders, prime) {
				want *= prime
			}
		}
		if orderByRules(orders) > 128 {
			want, wantCode = 0, impl.ErrLimit
		}
		if exponent, code := impl.GroupExponent(abelianByRules(orders)); exponent != want || code != wantCode {
			t.Fatalf("GroupExponent of the abelian group with the orders %v = %d, %d, not %d, %d", orders, exponent, code, want, wantCode)
		}
	}
}

func TestElementCases(t *testing.T) {
	s4, q8, d8 := "2 3 2 2; b^a=bb; c^a=d; d^a=c; c^b=d; d^b=cd", "2 2 2; a^2=c; b^2=c; b^a=bc", "2 2 2; b^a=bc"
	for _, c := range []struct {
		text                                  string
		x, y, product, conjugate, commutator  []int64
		inverse                               []int64
		order, number, numberOfLast, exponent int64
	}{
		{"1", nil, nil, nil, nil, nil, nil, 1, 0, 0, 1},
		{"2", []int64{1}, []int64{1}, []int64{0}, []int64{1}, []int64{0}, []int64{1}, 2, 1, 1, 2},
		{"7", []int64{5}, []int64{4}, []int64{2}, []int64{5}, []int64{0}, []int64{2}, 7, 5, 6, 7},
		{"2 3; b^a=bb", []int64{0, 1}, []int64{1, 1}, []int64{1, 0}, []int64{0, 2}, []int64{0, 1}, []int64{0, 2}, 3, 1, 5, 6},
		{"2 3; b^a=bb", []int64{1, 2}, []int64{1, 0}, []int64{0, 1}, []int64{1, 1}, []int64{0, 2}, []int64{1, 2}, 2, 5, 5, 6},
		{"2 2 3; a^2=b; b^2=c", []int64{1, 1, 1}, []int64{1, 0, 2}, []int64{0, 0, 1}, []int64{1, 1, 1}, []int64{0, 0, 0}, []int64{1, 0, 1}, 12, 10, 11, 12},
		{q8, []int64{1, 0, 0}, []int64{0, 1, 0}, []int64{1, 1, 0}, []int64{1, 0, 1}, []int64{0, 0, 1}, []int64{1, 0, 1}, 4, 4, 7, 4},
		{d8, []int64{1, 1, 0}, []int64{1, 0, 0}, []int64{0, 1, 1}, []int64{1, 1, 1}, []int64{0, 0, 1}, []int64{1, 1, 1}, 4, 6, 7, 4},
		{s4, []int64{1, 0, 0, 1}, []int64{0, 1, 0, 0}, []int64{1, 1, 1, 1}, []int64{1, 2, 1, 1}, []int64{0, 2, 0, 1}, []int64{1, 0, 1, 0}, 4, 13, 23, 12},
	} {
		p := mustParse(t, c.text)
		for i, want := range [][]int64{c.product, c.conjugate, c.commutator} {
			v, code := operationsOfTwo[i].call(p, c.x, c.y)
			mustHaveVector(t, fmt.Sprintf("for %q, %s(%v, %v)", c.text, operationsOfTwo[i].name, c.x, c.y), v, code, want)
		}
		inverse, code := impl.Inverse(p, c.x)
		mustHaveVector(t, fmt.Sprintf("for %q, Inverse(%v)", c.text, c.x), inverse, code, c.inverse)
		if order, code := impl.ElementOrder(p, c.x); order != c.order || code != impl.ErrNone {
			t.Errorf("for %q, ElementOrder(%v) = %d, %d", c.text, c.x, order, code)
		}
		if number, code := impl.ElementNumber(p, c.x); number != c.number || code != impl.ErrNone {
			t.Errorf("for %q, ElementNumber(%v) = %d, %d", c.text, c.x, number, code)
		}
		at, code := impl.ElementAt(p, c.number)
		mustHaveVector(t, fmt.Sprintf("for %q, ElementAt(%d)", c.text, c.number), at, code, c.x)
		if _, code := impl.ElementAt(p, c.numberOfLast); code != impl.ErrNone {
			t.Errorf("for %q, ElementAt(%d) has the code %d", c.text, c.numberOfLast, code)
		}
		if _, code := impl.ElementAt(p, c.numberOfLast+1); code != impl.ErrRange {
			t.Errorf("for %q, ElementAt(%d) has the code %d", c.text, c.numberOfLast+1, code)
		}
		if exponent, code := impl.GroupExponent(p); exponent != c.exponent || code != impl.ErrNone {
			t.Errorf("for %q, GroupExponent = %d, %d", c.text, exponent, code)
		}
	}
}

func TestPowerCases(t *testing.T) {
	for _, c := range []struct {
		text string
		x    []int64
		k    int64
		want []int64
	}{
		{"1", nil, 0, nil}, {"1", nil, 1000000, nil}, {"1", nil, -1000000, nil},
		{"2", []int64{1}, 0, []int64{0}}, {"2", []int64{1}, -1, []int64{1}}, {"2", []int64{1}, 1000000, []int64{0}}, {"2", []int64{1}, -999999, []int64{1}}, {"2", []int64{0}, -1, []int64{0}},
		{"7", []int64{3}, 1000000, []int64{3}}, {"7", []int64{3}, -1000000, []int64{4}}, {"7", []int64{1}, -1, []int64{6}},
		{"2 2 3; a^2=b; b^2=c", []int64{1, 0, 0}, 7, []int64{1, 1, 1}}, {"2 2 3; a^2=b; b^2=c", []int64{1, 0, 0}, -1, []int64{1, 1, 2}}, {"2 2 3; a^2=b; b^2=c", []int64{1, 0, 0}, 12, []int64{0, 0, 0}}, {"2 2 3; a^2=b; b^2=c", []int64{1, 0, 0}, 1000000, []int64{0, 0, 1}}, {"2 2 3; a^2=b; b^2=c", []int64{1, 0, 0}, -1000000, []int64{0, 0, 2}},
		{"2 3; b^a=bb", []int64{1, 1}, 2, []int64{0, 0}}, {"2 3; b^a=bb", []int64{1, 1}, -3, []int64{1, 1}}, {"2 3; b^a=bb", []int64{0, 1}, -2, []int64{0, 1}}, {"2 3; b^a=bb", []int64{0, 0}, -1000000, []int64{0, 0}},
		{"2 2 2; a^2=c; b^2=c; b^a=bc", []int64{1, 1, 0}, 2, []int64{0, 0, 1}}, {"2 2 2; a^2=c; b^2=c; b^a=bc", []int64{1, 1, 0}, -1, []int64{1, 1, 1}}, {"7 7 7; a^7=c; b^a=bc", []int64{1, 0, 0}, 48, []int64{6, 0, 6}},
	} {
		v, code := impl.Power(mustParse(t, c.text), c.x, c.k)
		mustHaveVector(t, fmt.Sprintf("for %q, Power(%v, %d)", c.text, c.x, c.k), v, code, c.want)
	}
}

// substituted is the word over the generators that a word over the images stands for.
func substituted(w []int64, images [][]int64) []int64 {
	var list []int64
	for _, letter := range w {
		if letter < 0 {
			list = append(list, inverseByRules(wordByRules(images[-letter-1]))...)
		} else {
			list = append(list, wordByRules(images[letter-1])...)
		}
	}
	return list
}

func checkEvaluation(t *testing.T, g knownGroup, w []int64, images [][]int64) {
	t.Helper()
	v, code := impl.EvaluateWord(g.p, w, images)
	mustHaveVector(t, fmt.Sprintf("EvaluateWord(%v, %v, %v)", g.p, w, images), v, code, g.vector(substituted(w, images)))
}

func TestEvaluateWord(t *testing.T) {
	s := &scatter{121}
	for _, g := range knownGroups(t, s) {
		for k := range int64(impl.MaxGens + 1) {
			var images [][]int64
			for range k {
				images = append(images, s.element(g.orders))
			}
			checkEvaluation(t, g, nil, images)
			if k > 0 {
				for _, length := range []int{1, 2, 5, impl.MaxWord} {
					checkEvaluation(t, g, word(s.text(k, length)), images)
				}
				checkEvaluation(t, g, times(impl.MaxWord, -k), images)
			}
		}
	}
}

// The generators are elements for which the relations hold.
func TestRelatorsAreTheIdentity(t *testing.T) {
	s := &scatter{122}
	for _, g := range knownGroups(t, s) {
		generators := identity(2, len(g.orders)).Rows
		for _, relator := range relatorsByRules(g.p) {
			v, code := impl.EvaluateWord(g.p, relator, generators)
			mustHaveVector(t, fmt.Sprintf("EvaluateWord(%v, %v, %v)", g.p, relator, generators), v, code, g.identity())
		}
	}
}

func TestEvaluateWordCases(t *testing.T) {
	s3, ab := "2 3; b^a=bb", [][]int64{{1, 0}, {0, 1}}
	six := slices.Repeat([][]int64{{0, 1}}, 6)
	for _, c := range []struct {
		text   string
		w      []int64
		images [][]int64
		want   []int64
		code   int64
	}{
		{"1", nil, nil, nil, impl.ErrNone}, {"1", []int64{1, -2}, [][]int64{nil, nil}, nil, impl.ErrNone}, {"1", []int64{1}, nil, nil, impl.ErrInvalid}, {"1", nil, [][]int64{{0}}, nil, impl.ErrInvalid}, {"2", nil, nil, []int64{0}, impl.ErrNone},
		{s3, nil, nil, []int64{0, 0}, impl.ErrNone}, {s3, nil, ab, []int64{0, 0}, impl.ErrNone}, {s3, []int64{-1, 2, 1}, ab, []int64{0, 2}, impl.ErrNone}, {s3, []int64{2, 1}, ab, []int64{1, 2}, impl.ErrNone}, {s3, []int64{1, 2}, ab, []int64{1, 1}, impl.ErrNone}, {s3, []int64{-2}, ab, []int64{0, 2}, impl.ErrNone}, {s3, []int64{2, -2}, ab, []int64{0, 0}, impl.ErrNone}, {s3, []int64{2}, [][]int64{{1, 0}, {1, 2}}, []int64{1, 2}, impl.ErrNone},
		{s3, []int64{6, -1, 6}, six, []int64{0, 1}, impl.ErrNone}, {s3, times(64, 1), six, []int64{0, 1}, impl.ErrNone}, {s3, times(65, 1), six, nil, impl.ErrInvalid}, {s3, nil, append(six, six[0]), nil, impl.ErrInvalid}, {s3, []int64{1}, append(six, six[0]), nil, impl.ErrInvalid}, {s3, []int64{7}, append(six, six[0]), nil, impl.ErrInvalid}, {s3, nil, slices.Repeat(six, 10000), nil, impl.ErrInvalid},
		{s3, []int64{3}, ab, nil, impl.ErrInvalid}, {s3, []int64{-3}, ab, nil, impl.ErrInvalid}, {s3, []int64{0}, ab, nil, impl.ErrInvalid}, {s3, []int64{1}, nil, nil, impl.ErrInvalid}, {s3, []int64{2}, ab[:1], nil, impl.ErrInvalid}, {s3, []int64{math.MinInt64}, ab, nil, impl.ErrInvalid},
		{s3, []int64{1}, [][]int64{{1, 0}, {0, 3}}, nil, impl.ErrInvalid}, {s3, nil, [][]int64{{1, 0}, {0}}, nil, impl.ErrInvalid}, {s3, nil, [][]int64{nil}, nil, impl.ErrInvalid}, {s3, []int64{1}, [][]int64{{1, 0}, {0, 1}, {-1, 0}}, nil, impl.ErrInvalid}, {s3, []int64{2}, [][]int64{{1, 0, 0}, {0, 1}}, nil, impl.ErrInvalid},
		{"2 5; b^a=bb", nil, nil, nil, impl.ErrInvalid}, {"2 5; b^a=bb", []int64{1}, ab, nil, impl.ErrInvalid},
	} {
		if v, code := impl.EvaluateWord(mustParse(t, c.text), c.w, c.images); !slices.Equal(v, c.want) || code != c.code {
			t.Errorf("for %q, EvaluateWord(%v, %v) = %v, %d, not %v, %d", c.text, c.w, c.images, v, code, c.want, c.code)
		}
	}
}

func TestWordsThatAreNotOverTheImages(t *testing.T) {
	s := &scatter{123}
	for _, text := range []string{"1", "7", "2 3; b^a=bb", "2 2 2 2 2 2; b^a=bd; c^a=ce; c^b=cf"} {
		p := mustParse(t, text)
		for k := range impl.MaxGens + 1 {
			var images [][]int64
			for range k {
				images = append(images, s.element(p.Orders))
			}
			for _, w := range invalidWords(int64(k)) {
				if v, code := impl.EvaluateWord(p, w, images); len(v) != 0 || code != impl.ErrInvalid {
					t.Fatalf("EvaluateWord(%v, %v, %v) = %v, %d", p, w, images, v, code)
				}
			}
		}
	}
}

func TestElementsAreTheExponentVectorsOfGroups(t *testing.T) {
	s := &scatter{124}
	for _, g := range knownGroups(t, s) {
		for _, x := range elementsIn(s, g, 32) {
			if !impl.IsElement(g.p, x) {
				t.Fatalf("IsElement(%v, %v) is false", g.p, x)
			}
		}
	}
}

func checkPowerCode(t *testing.T, p impl.Presentation, x []int64, k int64, want int64) {
	t.Helper()
	if v, code := impl.Power(p, x, k); len(v) != 0 || code != want {
		t.Fatalf("Power(%v, %v, %d) = %v, %d, not %d", p, x, k, v, code, want)
	}
}

// checkNoElement is for x that is not an element of p, be it that p is no group.
func checkNoElement(t *testing.T, p impl.Presentation, x []int64) {
	t.Helper()
	inverse, inverseCode := impl.Inverse(p, x)
	order, orderCode := impl.ElementOrder(p, x)
	number, numberCode := impl.ElementNumber(p, x)
	v, code := impl.EvaluateWord(p, nil, [][]int64{x})
	switch {
	case impl.IsElement(p, x):
		t.Fatalf("IsElement(%v, %v) is true", p, x)
	case len(inverse) != 0 || inverseCode != impl.ErrInvalid:
		t.Fatalf("Inverse(%v, %v) = %v, %d", p, x, inverse, inverseCode)
	case order != 0 || orderCode != impl.ErrInvalid:
		t.Fatalf("ElementOrder(%v, %v) = %d, %d", p, x, order, orderCode)
	case number != 0 || numberCode != impl.ErrInvalid:
		t.Fatalf("ElementNumber(%v, %v) = %d, %d", p, x, number, numberCode)
	case len(v) != 0 || code != impl.ErrInvalid:
		t.Fatalf("EvaluateWord(%v, nil, {%v}) = %v, %d", p, x, v, code)
	}
	// An exponent out of its range is checked behind the element.
	for _, k := range append(slices.Clone(outsideExponents), -1, 0, 1, 1000000) {
		checkPowerCode(t, p, x, k, impl.ErrInvalid)
	}
}

func checkNoElements(t *testing.T, p impl.Presentation, x []int64, y []int64) {
	t.Helper()
	for _, o := range operationsOfTwo {
		if v, code := o.call(p, x, y); len(v) != 0 || code != impl.ErrInvalid {
			t.Fatalf("%s(%v, %v, %v) = %v, %d", o.name, p, x, y, v, code)
		}
	}
}

// checkNoGroup has numbers out of their range too, and groups of more than MaxElements elements if they were some.
func checkNoGroup(t *testing.T, p impl.Presentation) {
	t.Helper()
	if exponent, code := impl.GroupExponent(p); exponent != 0 || code != impl.ErrInvalid {
		t.Fatalf("GroupExponent(%v) = %d, %d", p, exponent, code)
	}
	for _, number := range []int64{math.MinInt64, -1, 0, 1, 729, math.MaxInt64} {
		if v, code := impl.ElementAt(p, number); len(v) != 0 || code != impl.ErrInvalid {
			t.Fatalf("ElementAt(%v, %d) = %v, %d", p, number, v, code)
		}
	}
	if v, code := impl.EvaluateWord(p, nil, nil); len(v) != 0 || code != impl.ErrInvalid {
		t.Fatalf("EvaluateWord(%v, nil, nil) = %v, %d", p, v, code)
	}
	for _, x := range [][]int64{nil, {1}, make([]int64, len(p.Orders))} {
		checkNoElement(t, p, x)
		checkNoElements(t, p, x, x)
	}
}

func TestInvalidPresentationsAreNoGroups(t *testing.T) {
	for _, p := range invalidPresentations(&scatter{125}) {
		checkNoGroup(t, p)
	}
}

// Presentations that are valid, but whose groups are smaller.
func TestInconsistentPresentationsAreNoGroups(t *testing.T) {
	s := &scatter{126}
	list := smallPresentations()
	for i, p := range slices.Concat(samplePresentations(s), changedPresentations(t, s)) {
		if i%9 == 0 {
			list = append(list, p)
		}
	}
	others, large := 0, 0
	for _, p := range list {
		if g := groupTableOf(t, p); !g.isFull() {
			checkNoGroup(t, p)
			if others++; orderByRules(p.Orders) > 128 {
				large++
			}
		}
	}
	for _, c := range faultTexts {
		checkNoGroup(t, mustParse(t, c.text))
	}
	if others < 1000 || large < 300 {
		t.Errorf("%d presentations are no groups, and %d of them are large", others, large)
	}
}

func TestVectorsThatAreNoElements(t *testing.T) {
	s := &scatter{127}
	for _, p := range consistentPresentations(t, s) {
		e := s.element(p.Orders)
		for _, x := range otherVectors(p, e) {
			checkNoElement(t, p, x)
			checkNoElements(t, p, x, e)
			checkNoElements(t, p, e, x)
			checkNoElements(t, p, x, x)
			for _, images := range [][][]int64{{e, x}, {x, e}, {e, e, e, e, e, x}} {
				if v, code := impl.EvaluateWord(p, []int64{1, -2}, images); len(v) != 0 || code != impl.ErrInvalid {
					t.Fatalf("EvaluateWord(%v, {1, -2}, %v) = %v, %d", p, images, v, code)
				}
			}
		}
	}
}

// elementCalls have all functions of the chapter, each with the claim to the memory of its result.
func elementCalls(p impl.Presentation, x []int64, y []int64, w []int64, images [][]int64) map[string]func(owned map[any]bool) (string, bool) {
	vector := func(call func() ([]int64, int64)) func(map[any]bool) (string, bool) {
		return func(owned map[any]bool) (string, bool) {
			v, code := call()
			return fmt.Sprint(v, code), claim(owned, v)
		}
	}
	calls := map[string]func(map[any]bool) (string, bool){
		"Inverse":               vector(func() ([]int64, int64) { return impl.Inverse(p, x) }),
		"a power":               vector(func() ([]int64, int64) { return impl.Power(p, x, 5) }),
		"the element itself":    vector(func() ([]int64, int64) { return impl.Power(p, x, 1) }),
		"ElementAt":             vector(func() ([]int64, int64) { return impl.ElementAt(p, 1) }),
		"EvaluateWord":          vector(func() ([]int64, int64) { return impl.EvaluateWord(p, w, images) }),
		"a word of one letter":  vector(func() ([]int64, int64) { return impl.EvaluateWord(p, []int64{1}, images) }),
		"a word with no letter": vector(func() ([]int64, int64) { return impl.EvaluateWord(p, nil, images) }),
		"the numbers": func(map[any]bool) (string, bool) {
			order, code := impl.ElementOrder(p, x)
			number, numberCode := impl.ElementNumber(p, x)
			exponent, exponentCode := impl.GroupExponent(p)
			return fmt.Sprint(impl.IsElement(p, x), order, code, number, numberCode, exponent, exponentCode), true
		},
	}
	for _, o := range operationsOfTwo {
		calls[o.name] = vector(func() ([]int64, int64) { return o.call(p, x, y) })
		calls[o.name+" of one element"] = vector(func() ([]int64, int64) { return o.call(p, x, x) })
		calls[o.name+" with the identity"] = vector(func() ([]int64, int64) { return o.call(p, x, make([]int64, len(p.Orders))) })
	}
	return calls
}

func checkElementMemory(t *testing.T, p impl.Presentation, x []int64, y []int64, w []int64) {
	t.Helper()
	p, x, y, w = roomyPresentation(p), roomy(x), roomy(y), roomy(w)
	images := roomyRows([][]int64{x, y, x})
	claimArguments := func(owned map[any]bool) {
		claimPresentation(owned, p)
		claimRows(owned, images)
		for _, list := range [][]int64{x, y, w} {
			claim(owned, list)
		}
	}
	contents := func() string {
		return fullContent(p) + fmt.Sprint(fullVector(x), fullVector(y), fullVector(w)) + fullRows(images)
	}
	checkCalls(t, elementCalls(p, x, y, w, images), claimArguments, contents)
}

func TestElementArgumentsStayAndResultsAreNew(t *testing.T) {
	s := &scatter{128}
	for _, p := range consistentPresentations(t, s) {
		x, y := s.element(p.Orders), s.element(p.Orders)
		checkElementMemory(t, p, x, y, []int64{1, -3, 2, 2})
		checkElementMemory(t, p, x, append(slices.Clone(y), 1), []int64{1, 4})
	}
	for i, p := range append(samplePresentations(s), invalidPresentations(s)...) {
		if i%40 == 0 && len(p.Orders) < 10 {
			zero := make([]int64, len(p.Orders))
			checkElementMemory(t, p, zero, zero, []int64{1, -2})
		}
	}
}
