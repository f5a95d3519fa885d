package tests

import (
	"fmt"
	"math"
	"slices"
	"testing"

	"loop.example/g01076/impl"
)

// consistentTexts are texts of presentations of groups of full order.
var consistentTexts = []string{
	"1", "2", "7", "2 3", "2 2; a^2=b", "2 3; b^a=bb", "2 5; b^a=bbbb", "3 7; b^a=bb", "3 2; a^3=b", "7 7; a^7=b", "5 2",
	"2 2 2; a^2=c; b^2=c; b^a=bc", "2 2 2; b^a=bc", "2 2 2; a^2=b; b^2=c", "2 2 2; b^2=c; b^a=bc", "2 2 3; a^2=b; c^a=cc", "2 2 3; a^2=b; b^2=c", "2 2 3; c^a=cc; c^b=cc", "2 2 5; a^2=b; c^a=cc; c^b=cccc", "2 3 7; c^a=cccccc; c^b=cc", "3 2 2; b^a=c; c^a=bc", "3 3 3; b^a=bc", "3 3 3; a^3=c; b^a=bc", "5 5 5; b^a=bc", "7 7 7; b^a=bc", "7 7 7; a^7=c; b^a=bc", "3 7 7; b^a=bb; c^a=cccc",
	"2 3 2 2; b^a=bb; c^a=d; d^a=c; c^b=d; d^b=cd", "3 2 2 2; b^2=d; c^2=d; b^a=c; c^a=bc; c^b=cd", "3 3 3 3; b^a=c; c^a=d; d^a=b", "3 3 3 3; b^a=bc; c^a=cd", "5 5 5 5; b^a=bc; c^a=cd", "2 7 7 7; b^a=bbbbbb; c^a=cccccc; d^a=dddddd", "2 3 5 7; b^a=bb; c^a=cccc; d^a=dddddd", "2 2 3 3; c^a=cc; d^b=dd", "2 2 3 3; a^2=b; c^a=d; d^a=cc; c^b=cc; d^b=dd",
	"2 2 2 2 2; b^a=be; d^c=de", "3 3 3 3 3; b^a=be; d^c=de", "3 2 2 2 2; b^a=c; c^a=bc; d^a=e; e^a=de",
	"2 2 3 2 2; c^b=cc; d^b=e; e^b=d; d^c=e; e^c=de", "5 2 3 2 2; c^b=cc; d^b=e; e^b=d; d^c=e; e^c=de", "2 3 2 2 2; a^2=d; c^2=e; d^2=e; b^a=bbde; c^a=cd; c^b=d; d^b=cd; d^c=de", "2 2 3 2 2 2; b^2=e; d^2=f; e^2=f; c^b=ccef; d^b=de; d^c=e; e^c=de; e^d=ef",
	"2 3 3; b^a=c; c^a=b", "2 7 7; b^a=c; c^a=b", "3 5 5; b^a=c; c^a=bbbbcccc", "7 2 2 2; b^a=c; c^a=d; d^a=bc", "5 2 2 2 2; b^a=c; c^a=d; d^a=e; e^a=bcde", "2 2 2 2 2; b^a=d; c^a=e; d^a=b; e^a=c", "2 2 2 3 3; a^2=c; d^a=e; e^a=d; d^b=dd; e^b=ee",
	"2 2 2 2 2 2", "3 3 3 3 3 3", "3 3 3 3 3 3; a^3=b; b^3=c; c^3=d; d^3=e; e^3=f", "2 2 2 2 2 2; a^2=b; b^2=c; c^2=d; d^2=e; e^2=f", "2 2 2 2 2 2; a^2=b; c^a=d; d^a=e; e^a=f; f^a=c; c^b=e; d^b=f; e^b=c; f^b=d", "3 3 3 3 3 3; b^a=bd; c^a=ce; c^b=cf", "2 2 2 2 2 2; b^a=bd; c^a=ce; c^b=cf", "2 2 2 2 5 7; a^2=b; e^a=ee; f^a=ffffff; e^b=eeee; f^c=ffffff",
}

// faultTexts are texts of presentations with their first faults.
var faultTexts = []struct {
	text  string
	fault impl.Fault
}{
	{"2 5; b^a=bb", impl.Fault{Kind: impl.FaultInner, First: 1}},
	{"2 2; b^a=1", impl.Fault{Kind: impl.FaultInner, First: 1}},
	{"2 3; a^2=b; b^a=bb", impl.Fault{Kind: impl.FaultFixed}},
	{"3 2; a^3=b; b^a=1", impl.Fault{Kind: impl.FaultFixed}},
	{"2 2 2; a^2=b; b^a=c; c^a=b", impl.Fault{Kind: impl.FaultFixed}},
	{"3 2 2; b^2=c; b^a=c", impl.Fault{Kind: impl.FaultPower, First: 1}},
	{"2 2 2 2; d^a=1; c^b=cd", impl.Fault{Kind: impl.FaultConjugate, First: 1, Second: 2}},
	{"7 2 5; c^b=cc", impl.Fault{Kind: impl.FaultInner, Level: 1, First: 2}},
	{"7 2 3; b^2=c; c^b=cc", impl.Fault{Kind: impl.FaultFixed, Level: 1}},
	{"2 3 2 2; c^2=d; c^b=d", impl.Fault{Kind: impl.FaultPower, Level: 1, First: 2}},
	{"2 2 2 2 2; e^b=1; d^c=de", impl.Fault{Kind: impl.FaultConjugate, Level: 1, First: 2, Second: 3}},
	{"2 2 2 2 2 7; f^e=ff", impl.Fault{Kind: impl.FaultInner, Level: 4, First: 5}},
	{"2 2 2 2 2 2; f^d=1", impl.Fault{Kind: impl.FaultInner, Level: 3, First: 5}},
	// Of several faults of one level, the condition decides, and then the first index or pair.
	{"2 2 2 2; c^2=d; d^a=1; c^b=cd", impl.Fault{Kind: impl.FaultPower, First: 2}},
	{"2 2 2 2; a^2=d; d^a=1; c^b=cd", impl.Fault{Kind: impl.FaultConjugate, First: 1, Second: 2}},
	{"2 5; a^2=b; b^a=bb", impl.Fault{Kind: impl.FaultFixed}},
	{"2 2 2 2 2; b^2=e; c^2=e; e^a=1", impl.Fault{Kind: impl.FaultPower, First: 1}},
	{"2 2 2 2 2; e^a=1; d^b=de; d^c=de", impl.Fault{Kind: impl.FaultConjugate, First: 1, Second: 3}},
	{"2 2 2 2 2; e^a=1; c^b=ce; d^b=de", impl.Fault{Kind: impl.FaultConjugate, First: 1, Second: 2}},
	{"2 2 5 5; c^a=cc; d^a=dd", impl.Fault{Kind: impl.FaultInner, First: 2}},
	// Of several levels, the greatest decides.
	{"2 5 5; b^a=bb; c^b=1", impl.Fault{Kind: impl.FaultInner, Level: 1, First: 2}},
	{"2 2 2 2; c^2=d; d^a=1; c^b=d", impl.Fault{Kind: impl.FaultPower, Level: 1, First: 2}},
}

func tailByRules(p impl.Presentation, i int) impl.Presentation {
	var vectors [][]int64
	for _, place := range relationPlaces(len(p.Orders) - i) {
		vectors = append(vectors, vectorAt(p, relationPlace{place.i + i, place.j + i})[i:])
	}
	return presentation(p.Orders[i:], vectors)
}

func headByRules(p impl.Presentation, i int) impl.Presentation {
	var vectors [][]int64
	for _, place := range relationPlaces(i) {
		vectors = append(vectors, vectorAt(p, place)[:i])
	}
	return presentation(p.Orders[:i], vectors)
}

// groupTable has the elements of the group of a presentation as cosets of the trivial subgroup.
type groupTable struct {
	*cosets
	orders  []int64
	vectors map[int][]int64
}

// groupTableOf gives each element one of its exponent vectors, which is the only one if the order is full.
func groupTableOf(t *testing.T, p impl.Presentation) groupTable {
	t.Helper()
	g := groupTable{enumerated(t, len(p.Orders), relatorsByRules(p)), p.Orders, map[int][]int64{}}
	for _, v := range vectorsBelow(p.Orders) {
		g.vectors[g.element(wordByRules(v))] = v
	}
	if int64(len(g.vectors)) != g.count() {
		t.Fatalf("%d of the %d elements of the group of %v have vectors", len(g.vectors), g.count(), p)
	}
	return g
}

func (g groupTable) isFull() bool { return g.count() == orderByRules(g.orders) }

func (g groupTable) element(w []int64) int {
	at := 0
	for _, letter := range w {
		at = g.next[at][columnOf(letter)]
	}
	return at
}

func (g groupTable) isSame(a []int64, b []int64) bool { return g.element(a) == g.element(b) }

func (g groupTable) vector(w []int64) []int64 { return g.vectors[g.element(w)] }

func wordByRules(v []int64) []int64 { return word(normalBytes(v)) }

func inverseByRules(w []int64) []int64 { return word(inverseBytes(bytesOf(w))) }

// imageByRules is the image at the first level of a presentation of an element of its tail at 1.
func imageByRules(p impl.Presentation, v []int64) []int64 {
	var image []int64
	for j, exponent := range v {
		image = append(image, slices.Repeat(wordByRules(p.Conjugates[0][j][1:]), int(exponent))...)
	}
	return image
}

// firstLevelFault follows the four conditions for level 0 of a presentation whose tail at 1 is consistent.
func firstLevelFault(t *testing.T, p impl.Presentation) impl.Fault {
	t.Helper()
	h, n := groupTableOf(t, tailByRules(p, 1)), len(p.Orders)
	image := func(v []int64) []int64 { return imageByRules(p, v[1:]) }
	unit := func(j int) []int64 { return trivialVector(n, relationPlace{0, j}) }
	for j := 1; j < n; j++ {
		if !h.isSame(slices.Repeat(image(unit(j)), int(p.Orders[j])), image(p.Powers[j])) {
			return impl.Fault{Kind: impl.FaultPower, First: int64(j)}
		}
	}
	for j := 1; j < n; j++ {
		for k := j + 1; k < n; k++ {
			by := image(unit(j))
			if !h.isSame(slices.Concat(inverseByRules(by), image(unit(k)), by), image(p.Conjugates[j][k-j-1])) {
				return impl.Fault{Kind: impl.FaultConjugate, First: int64(j), Second: int64(k)}
			}
		}
	}
	w := wordByRules(p.Powers[0][1:])
	if !h.isSame(image(p.Powers[0]), w) {
		return impl.Fault{Kind: impl.FaultFixed}
	}
	for j := 1; j < n; j++ {
		x := unit(j)
		for range p.Orders[0] {
			x = append([]int64{0}, h.vector(image(x))...)
		}
		if !h.isSame(wordByRules(x[1:]), slices.Concat(inverseByRules(w), []int64{int64(j)}, w)) {
			return impl.Fault{Kind: impl.FaultInner, First: int64(j)}
		}
	}
	t.Fatalf("the tail at 1 of %v has a group of full order, %v has not, and there is no fault", p, p)
	return impl.Fault{}
}

// behind is the fault of a presentation with more generators in front.
func behind(fault impl.Fault, generators int64) impl.Fault {
	switch fault.Kind {
	case impl.FaultNone:
		return fault
	case impl.FaultConjugate:
		fault.Second += generators
	}
	if fault.Kind != impl.FaultFixed {
		fault.First += generators
	}
	fault.Level += generators
	return fault
}

// faultByRules finds the level by the orders of the groups of the tails.
func faultByRules(t *testing.T, p impl.Presentation) impl.Fault {
	t.Helper()
	for i := len(p.Orders) - 1; i >= 0; i-- {
		if tail := tailByRules(p, i); !groupTableOf(t, tail).isFull() {
			return behind(firstLevelFault(t, tail), int64(i))
		}
	}
	return impl.Fault{}
}

func checkFault(t *testing.T, p impl.Presentation, want impl.Fault) {
	t.Helper()
	if fault, code := impl.ConsistencyFault(p); fault != want || code != impl.ErrNone {
		t.Fatalf("ConsistencyFault(%v) = %v, %d, not %v", p, fault, code, want)
	}
	from := int64(0)
	if want.Kind != impl.FaultNone {
		from = want.Level + 1
	}
	if i, code := impl.ConsistentFrom(p); i != from || code != impl.ErrNone {
		t.Fatalf("ConsistentFrom(%v) = %d, %d, not %d", p, i, code, from)
	}
	if impl.IsConsistent(p) != (want.Kind == impl.FaultNone) {
		t.Fatalf("IsConsistent(%v) is %v", p, impl.IsConsistent(p))
	}
}

func checkConsistency(t *testing.T, p impl.Presentation) impl.Fault {
	t.Helper()
	want := faultByRules(t, p)
	checkFault(t, p, want)
	return want
}

// otherGenerators presents a group by other generators of its tails, which leaves few relations trivial.
func (s *scatter) otherGenerators(t *testing.T, p impl.Presentation) impl.Presentation {
	t.Helper()
	g := groupTableOf(t, p)
	var generators [][]int64
	for i, order := range p.Orders {
		v := make([]int64, len(p.Orders))
		v[i] = 1 + s.below(order-1)
		for k := i + 1; k < len(v); k++ {
			v[k] = s.below(p.Orders[k])
		}
		generators = append(generators, wordByRules(v))
	}
	vectors := map[int][]int64{}
	for _, v := range vectorsBelow(p.Orders) {
		var w []int64
		for i, exponent := range v {
			w = append(w, slices.Repeat(generators[i], int(exponent))...)
		}
		vectors[g.element(w)] = v
	}
	var rows [][]int64
	for _, place := range relationPlaces(len(p.Orders)) {
		by := generators[place.i]
		left := slices.Concat(inverseByRules(by), generators[place.j], by)
		if place.i == place.j {
			left = slices.Repeat(by, int(p.Orders[place.i]))
		}
		rows = append(rows, vectors[g.element(left)])
	}
	return presentation(p.Orders, rows)
}

// consistentPresentations present groups of full order.
func consistentPresentations(t *testing.T, s *scatter) []impl.Presentation {
	t.Helper()
	var list []impl.Presentation
	for _, text := range consistentTexts {
		p := mustParse(t, text)
		list = append(list, p, s.otherGenerators(t, p), s.otherGenerators(t, p))
	}
	return list
}

// changedPresentations are valid, and have one other number than one that is consistent.
func changedPresentations(t *testing.T, s *scatter) []impl.Presentation {
	t.Helper()
	var list []impl.Presentation
	for _, p := range consistentPresentations(t, s) {
		list = append(list, slices.DeleteFunc(otherEntries(p), func(q impl.Presentation) bool {
			return !isPresentationByRules(q) || samePresentation(p, q)
		})...)
	}
	return list
}

func TestFaultConstants(t *testing.T) {
	if kinds := []int{impl.FaultNone, impl.FaultPower, impl.FaultConjugate, impl.FaultFixed, impl.FaultInner}; !slices.Equal(kinds, []int{0, 1, 2, 3, 4}) {
		t.Errorf("the kinds of faults are %v", kinds)
	}
}

func TestConsistencyCases(t *testing.T) {
	for _, p := range consistentPresentations(t, &scatter{81}) {
		checkFault(t, p, impl.Fault{})
		checkConsistency(t, p)
	}
	for _, c := range faultTexts {
		p := mustParse(t, c.text)
		checkFault(t, p, c.fault)
		checkConsistency(t, p)
	}
}

// The first part of the promise, for all presentations of few generators.
func TestFaultsOfSmallPresentations(t *testing.T) {
	for _, p := range smallPresentations() {
		checkConsistency(t, p)
	}
}

// The first part of the promise, for presentations of more generators.
func TestFaultsOfLargerPresentations(t *testing.T) {
	s := &scatter{82}
	known := map[impl.Fault]bool{}
	list := changedPresentations(t, s)
	for i, p := range samplePresentations(s) {
		if i%4 == 0 {
			list = append(list, p)
		}
	}
	for _, p := range list {
		known[checkConsistency(t, p)] = true
	}
	for _, kind := range []int64{impl.FaultPower, impl.FaultFixed, impl.FaultInner} {
		for level := range int64(4) {
			fault := impl.Fault{Kind: kind, Level: level}
			if kind != impl.FaultFixed {
				fault.First = 5
			}
			if !known[fault] {
				t.Errorf("no presentation has the fault %v", fault)
			}
		}
	}
}

// A factor in front moves the fault of the one behind it to other levels, and one behind it does not change it.
func TestFaultsOfDirectProducts(t *testing.T) {
	factors := []impl.Presentation{{}, mustParse(t, "7"), mustParse(t, "2 3; b^a=bb"), mustParse(t, "2 2 2; a^2=c; b^2=c; b^a=bc")}
	list := smallPresentations()
	for _, c := range faultTexts {
		list = append(list, mustParse(t, c.text))
	}
	for _, p := range list {
		want, _ := impl.ConsistencyFault(p)
		for _, factor := range factors {
			if q, code := impl.DirectProduct(factor, p); code == impl.ErrNone {
				checkFault(t, q, behind(want, int64(len(factor.Orders))))
			}
			if q, code := impl.DirectProduct(p, factor); code == impl.ErrNone {
				checkFault(t, q, want)
			}
		}
	}
}

func TestFaultsOfTwoFactors(t *testing.T) {
	for _, a := range faultTexts {
		for _, b := range faultTexts {
			p, q := mustParse(t, a.text), mustParse(t, b.text)
			if product, code := impl.DirectProduct(p, q); code == impl.ErrNone {
				checkFault(t, product, behind(b.fault, int64(len(p.Orders))))
			}
		}
	}
}

func TestAbelianAndCyclicPresentationsAreConsistent(t *testing.T) {
	for _, orders := range orderLists() {
		checkFault(t, abelianByRules(orders), impl.Fault{})
	}
	for n := range int64(impl.MaxOrder + 1) {
		if p, code := impl.CyclicPresentation(n); code == impl.ErrNone {
			checkFault(t, p, impl.Fault{})
		}
	}
}

func checkTails(t *testing.T, p impl.Presentation) {
	t.Helper()
	fault, _ := impl.ConsistencyFault(p)
	for i := range len(p.Orders) + 1 {
		tail, code := impl.TailPresentation(p, int64(i))
		if !samePresentation(tail, tailByRules(p, i)) || code != impl.ErrNone {
			t.Fatalf("TailPresentation(%v, %d) = %v, %d", p, i, tail, code)
		}
		rest, _ := impl.ConsistencyFault(tail)
		if isFaulty := fault.Kind != impl.FaultNone && int64(i) <= fault.Level; isFaulty != (rest.Kind != impl.FaultNone) {
			t.Fatalf("the fault of %v is %v, and that of its tail at %d is %v", p, fault, i, rest)
		} else if isFaulty && behind(rest, int64(i)) != fault {
			t.Fatalf("the fault of %v is %v, and that of its tail at %d is %v", p, fault, i, rest)
		}
	}
}

func TestTailPresentation(t *testing.T) {
	s := &scatter{83}
	list := append(smallPresentations(), samplePresentations(s)...)
	for _, p := range append(list, changedPresentations(t, s)...) {
		checkTails(t, p)
	}
	for _, c := range []struct {
		text string
		i    int64
		tail string
	}{
		{"1", 0, "1"}, {"2", 0, "2"}, {"2", 1, "1"}, {"2 3; a^2=b", 1, "3"}, {"2 3; b^a=bb", 0, "2 3; b^a=bb"}, {"2 3; b^a=bb", 2, "1"}, {"3 2 2; a^3=bc; b^2=c", 1, "2 2; a^2=b"},
		{"2 3 2 2; b^a=bb; c^a=d; d^a=c; c^b=d; d^b=cd", 1, "3 2 2; b^a=c; c^a=bc"}, {"2 3 2 2; b^a=bb; c^a=d; d^a=c; c^b=d; d^b=cd", 2, "2 2"}, {"2 3 2 2; b^a=bb; c^a=d; d^a=c; c^b=d; d^b=cd", 3, "2"}, {"2 5; b^a=bb", 1, "5"}, {"7 2 5; c^b=cc", 1, "2 5; b^a=bb"},
	} {
		tail, code := impl.TailPresentation(mustParse(t, c.text), c.i)
		if text, _ := impl.PresentationText(tail); text != c.tail || code != impl.ErrNone {
			t.Errorf("TailPresentation of %q at %d has the text %q, and the code is %d", c.text, c.i, text, code)
		}
	}
}

// isNormalByRules conjugates all elements whose first i exponents are 0 by all generators.
func (g groupTable) isNormalByRules(i int) bool {
	for _, v := range vectorsBelow(slices.Concat(times(i, 1), g.orders[i:])) {
		for h := range g.orders {
			by := int64(h) + 1
			if !isZero(g.vector(slices.Concat([]int64{-by}, wordByRules(v), []int64{by}))[:i]) {
				return false
			}
		}
	}
	return true
}

// pairsOf are all pairs of exponent vectors, or some where there are many.
func pairsOf(s *scatter, orders []int64) [][2][]int64 {
	var pairs [][2][]int64
	vectors := vectorsBelow(orders)
	if len(vectors) <= 24 {
		for _, x := range vectors {
			for _, y := range vectors {
				pairs = append(pairs, [2][]int64{x, y})
			}
		}
		return pairs
	}
	for range 200 {
		pairs = append(pairs, [2][]int64{vectors[s.below(int64(len(vectors)))], vectors[s.below(int64(len(vectors)))]})
	}
	return pairs
}

// checkHeadIsQuotient multiplies in the head and in the whole group.
func checkHeadIsQuotient(t *testing.T, s *scatter, g groupTable, head impl.Presentation, i int) {
	t.Helper()
	h := groupTableOf(t, head)
	if !h.isFull() || !impl.IsConsistent(head) {
		t.Fatalf("the group of the head %v has %d elements", head, h.count())
	}
	for _, pair := range pairsOf(s, g.orders) {
		x, y := pair[0], pair[1]
		product := g.vector(slices.Concat(wordByRules(x), wordByRules(y)))
		if image := h.vector(slices.Concat(wordByRules(x[:i]), wordByRules(y[:i]))); !slices.Equal(image, product[:i]) {
			t.Fatalf("the product of %v and %v is %v, and in the head %v it is %v", x, y, product, head, image)
		}
	}
}

// checkHeads is for groups. It reports for how many tails in between there is a head, and for how many there is none.
func checkHeads(t *testing.T, s *scatter, p impl.Presentation) (int, int) {
	t.Helper()
	g, n, normal, others := groupTableOf(t, p), len(p.Orders), 0, 0
	for i := range n + 1 {
		want := g.isNormalByRules(i)
		if isNormal, code := impl.IsNormalTail(p, int64(i)); isNormal != want || code != impl.ErrNone {
			t.Fatalf("IsNormalTail(%v, %d) = %v, %d", p, i, isNormal, code)
		}
		head, code := impl.HeadPresentation(p, int64(i))
		switch {
		case want && samePresentation(head, headByRules(p, i)) && code == impl.ErrNone:
			checkHeadIsQuotient(t, s, g, head, i)
		case want || !samePresentation(head, impl.Presentation{}) || code != impl.ErrState:
			t.Fatalf("HeadPresentation(%v, %d) = %v, %d", p, i, head, code)
		}
		if want && 0 < i && i < n {
			normal++
		} else if !want {
			others++
		}
	}
	return normal, others
}

// The second part of the promise.
func TestHeadsAreQuotients(t *testing.T) {
	s := &scatter{84}
	list := append(smallPresentations(), consistentPresentations(t, s)...)
	for i, p := range changedPresentations(t, s) {
		if len(p.Orders) < 4 || i%20 == 0 {
			list = append(list, p)
		}
	}
	normal, others := 0, 0
	for _, p := range list {
		if impl.IsConsistent(p) {
			more, moreOthers := checkHeads(t, s, p)
			normal, others = normal+more, others+moreOthers
		}
	}
	if normal < 1000 || others < 100 {
		t.Errorf("%d tails are normal, and %d are not", normal, others)
	}
}

func TestHeadCases(t *testing.T) {
	s4 := "2 3 2 2; b^a=bb; c^a=d; d^a=c; c^b=d; d^b=cd"
	for _, c := range []struct {
		text string
		i    int64
		head string
		code int64
	}{
		{"1", 0, "1", impl.ErrNone}, {"2", 0, "1", impl.ErrNone}, {"2", 1, "2", impl.ErrNone}, {"2 3; b^a=bb", 0, "1", impl.ErrNone}, {"2 3; b^a=bb", 1, "2", impl.ErrNone}, {"2 3; b^a=bb", 2, "2 3; b^a=bb", impl.ErrNone},
		{s4, 0, "1", impl.ErrNone}, {s4, 1, "2", impl.ErrNone}, {s4, 2, "2 3; b^a=bb", impl.ErrNone}, {s4, 3, "1", impl.ErrState}, {s4, 4, s4, impl.ErrNone},
		{"3 2 2; b^a=c; c^a=bc", 1, "3", impl.ErrNone}, {"3 2 2; b^a=c; c^a=bc", 2, "1", impl.ErrState}, {"2 2 2; a^2=c; b^2=c; b^a=bc", 2, "2 2", impl.ErrNone}, {"2 2 3; a^2=b; b^2=c", 2, "2 2; a^2=b", impl.ErrNone},
		{"3 2 2 2; b^2=d; c^2=d; b^a=c; c^a=bc; c^b=cd", 3, "3 2 2; b^a=c; c^a=bc", impl.ErrNone}, {"3 2 2 2; b^2=d; c^2=d; b^a=c; c^a=bc; c^b=cd", 2, "1", impl.ErrState}, {"2 2 2; c^a=bc", 2, "1", impl.ErrState}, {"2 2 2; c^a=bc", 1, "2", impl.ErrNone},
	} {
		p := mustParse(t, c.text)
		if isNormal, code := impl.IsNormalTail(p, c.i); isNormal != (c.code == impl.ErrNone) || code != impl.ErrNone {
			t.Errorf("IsNormalTail of %q at %d = %v, %d", c.text, c.i, isNormal, code)
		}
		head, code := impl.HeadPresentation(p, c.i)
		if text, _ := impl.PresentationText(head); text != c.head || code != c.code {
			t.Errorf("HeadPresentation of %q at %d has the text %q, and the code is %d", c.text, c.i, text, code)
		}
	}
}

func checkTailCode(t *testing.T, p impl.Presentation, i int64, want int64) {
	t.Helper()
	if tail, code := impl.TailPresentation(p, i); !samePresentation(tail, impl.Presentation{}) || code != want {
		t.Fatalf("TailPresentation(%v, %d) = %v, %d, not %d", p, i, tail, code, want)
	}
}

func checkHeadCode(t *testing.T, p impl.Presentation, i int64, want int64) {
	t.Helper()
	if isNormal, code := impl.IsNormalTail(p, i); isNormal || code != want {
		t.Fatalf("IsNormalTail(%v, %d) = %v, %d, not %d", p, i, isNormal, code, want)
	}
	if head, code := impl.HeadPresentation(p, i); !samePresentation(head, impl.Presentation{}) || code != want {
		t.Fatalf("HeadPresentation(%v, %d) = %v, %d, not %d", p, i, head, code, want)
	}
}

// indicesOutside are no indices of tails, and some are if cut to 32 bits or less.
func indicesOutside(n int) []int64 {
	return []int64{math.MinInt64, -1 << 32, -int64(n) - 1, -1, int64(n) + 1, int64(n) + 2, 256, 1 << 32, 1<<32 + 1, math.MaxInt64}
}

func TestInvalidPresentationsHaveNoTails(t *testing.T) {
	for _, p := range invalidPresentations(&scatter{85}) {
		if i, code := impl.ConsistentFrom(p); impl.IsConsistent(p) || i != 0 || code != impl.ErrInvalid {
			t.Fatalf("ConsistentFrom(%v) = %d, %d, and IsConsistent is %v", p, i, code, impl.IsConsistent(p))
		}
		if fault, code := impl.ConsistencyFault(p); fault != (impl.Fault{}) || code != impl.ErrInvalid {
			t.Fatalf("ConsistencyFault(%v) = %v, %d", p, fault, code)
		}
		for _, i := range append(indicesOutside(len(p.Orders)), 0, 1, int64(len(p.Orders))) {
			checkTailCode(t, p, i, impl.ErrInvalid)
			checkHeadCode(t, p, i, impl.ErrInvalid)
		}
	}
}

// A presentation that is valid, but not consistent, has tails but no heads, and an index outside is an error behind that.
func TestIndicesOutside(t *testing.T) {
	s := &scatter{86}
	list := slices.Concat(basePresentations(s), consistentPresentations(t, s))
	for i, p := range samplePresentations(s) {
		if i%7 == 0 {
			list = append(list, p)
		}
	}
	for _, c := range faultTexts {
		list = append(list, mustParse(t, c.text))
	}
	for _, p := range list {
		n := len(p.Orders)
		for _, i := range indicesOutside(n) {
			checkTailCode(t, p, i, impl.ErrRange)
			if impl.IsConsistent(p) {
				checkHeadCode(t, p, i, impl.ErrRange)
			} else {
				checkHeadCode(t, p, i, impl.ErrInvalid)
			}
		}
		if !impl.IsConsistent(p) {
			for i := range n + 1 {
				checkHeadCode(t, p, int64(i), impl.ErrInvalid)
			}
		}
	}
}

// consistencyCalls have all functions of the chapter, each with the claim to the memory of its result.
func consistencyCalls(p impl.Presentation, i int64) map[string]func(owned map[any]bool) (string, bool) {
	return map[string]func(map[any]bool) (string, bool){
		"the tests": func(map[any]bool) (string, bool) {
			from, code := impl.ConsistentFrom(p)
			fault, faultCode := impl.ConsistencyFault(p)
			isNormal, normalCode := impl.IsNormalTail(p, i)
			return fmt.Sprint(impl.IsConsistent(p), from, code, fault, faultCode, isNormal, normalCode), true
		},
		"TailPresentation": func(owned map[any]bool) (string, bool) {
			tail, code := impl.TailPresentation(p, i)
			return fmt.Sprint(tail, code), claimPresentation(owned, tail)
		},
		"HeadPresentation": func(owned map[any]bool) (string, bool) {
			head, code := impl.HeadPresentation(p, i)
			return fmt.Sprint(head, code), claimPresentation(owned, head)
		},
	}
}

func checkConsistencyMemory(t *testing.T, p impl.Presentation, i int64) {
	t.Helper()
	p = roomyPresentation(p)
	claimArguments := func(owned map[any]bool) { claimPresentation(owned, p) }
	checkCalls(t, consistencyCalls(p, i), claimArguments, func() string { return fullContent(p) })
}

func TestConsistencyArgumentsStayAndResultsAreNew(t *testing.T) {
	s := &scatter{87}
	list := consistentPresentations(t, s)
	for i, p := range slices.Concat(samplePresentations(s), invalidPresentations(s)) {
		if i%40 == 0 && len(p.Orders) < 10 {
			list = append(list, p)
		}
	}
	for _, p := range list {
		for i := range len(p.Orders) + 2 {
			checkConsistencyMemory(t, p, int64(i))
		}
	}
}
