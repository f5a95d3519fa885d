package tests

import (
	"fmt"
	"math"
	"regexp"
	"slices"
	"strings"
	"testing"

	"loop.example/g01076/impl"
)

// presentation places the vectors in the order of the text: first the powers, then the conjugates.
func presentation(orders []int64, vectors [][]int64) impl.Presentation {
	n := len(orders)
	p := impl.Presentation{Orders: slices.Clone(orders)}
	rest := vectors[n:]
	for i := range n {
		p.Powers = append(p.Powers, slices.Clone(vectors[i]))
		var conjugates [][]int64
		for range n - 1 - i {
			conjugates, rest = append(conjugates, slices.Clone(rest[0])), rest[1:]
		}
		p.Conjugates = append(p.Conjugates, conjugates)
	}
	return p
}

// relationPlace tells which relation has a vector: the power of g_i where j is i, or the conjugate of g_j by g_i.
type relationPlace struct{ i, j int }

func relationPlaces(n int) []relationPlace {
	var places []relationPlace
	for i := range n {
		places = append(places, relationPlace{i, i})
	}
	for i := range n {
		for j := i + 1; j < n; j++ {
			places = append(places, relationPlace{i, j})
		}
	}
	return places
}

func vectorAt(p impl.Presentation, place relationPlace) []int64 {
	if place.i == place.j {
		return p.Powers[place.i]
	}
	return p.Conjugates[place.i][place.j-place.i-1]
}

func trivialVector(n int, place relationPlace) []int64 {
	v := make([]int64, n)
	if place.i != place.j {
		v[place.j] = 1
	}
	return v
}

func abelianByRules(orders []int64) impl.Presentation {
	var vectors [][]int64
	for _, place := range relationPlaces(len(orders)) {
		vectors = append(vectors, trivialVector(len(orders), place))
	}
	return presentation(orders, vectors)
}

func samePresentation(a impl.Presentation, b impl.Presentation) bool {
	return slices.Equal(a.Orders, b.Orders) && sameRows(a.Powers, b.Powers) && slices.EqualFunc(a.Conjugates, b.Conjugates, sameRows)
}

// vectorBounds bounds the entries of one vector of a valid presentation.
func vectorBounds(orders []int64, i int) []int64 { return slices.Concat(times(i+1, 1), orders[i+1:]) }

func isBounded(v []int64, bounds []int64) bool {
	for k := range v {
		if len(v) != len(bounds) || v[k] < 0 || v[k] >= bounds[k] {
			return false
		}
	}
	return len(v) == len(bounds)
}

func haveGroupPrimes(orders []int64) bool {
	return !slices.ContainsFunc(orders, func(order int64) bool { return !slices.Contains(groupPrimes, order) })
}

func orderByRules(orders []int64) int64 {
	product := int64(1)
	for _, order := range orders {
		product *= order
	}
	return product
}

func isPresentationByRules(p impl.Presentation) bool {
	n := len(p.Orders)
	if n > 6 || !haveGroupPrimes(p.Orders) || orderByRules(p.Orders) > 729 || len(p.Powers) != n || len(p.Conjugates) != n {
		return false
	}
	for i, conjugates := range p.Conjugates {
		if len(conjugates) != n-1-i {
			return false
		}
	}
	return !slices.ContainsFunc(relationPlaces(n), func(place relationPlace) bool {
		return !isBounded(vectorAt(p, place), vectorBounds(p.Orders, place.i))
	})
}

func normalBytes(v []int64) string {
	text := ""
	for i, entry := range v {
		text += strings.Repeat(positiveLetters[i:i+1], int(entry))
	}
	return text
}

func textByRules(p impl.Presentation) string {
	text := strings.Trim(fmt.Sprint(p.Orders), "[]")
	if text == "" {
		text = "1"
	}
	for _, place := range relationPlaces(len(p.Orders)) {
		exponent := fmt.Sprint(p.Orders[place.i])
		if place.i != place.j {
			exponent = positiveLetters[place.i : place.i+1]
		}
		word := normalBytes(vectorAt(p, place))
		if word == "" {
			word = "1"
		}
		if !slices.Equal(vectorAt(p, place), trivialVector(len(p.Orders), place)) {
			text += fmt.Sprintf("; %c^%s=%s", positiveLetters[place.j], exponent, word)
		}
	}
	return text
}

func relatorsByRules(p impl.Presentation) [][]int64 {
	var relators [][]int64
	for _, place := range relationPlaces(len(p.Orders)) {
		by := positiveLetters[place.i : place.i+1]
		left := strings.ToUpper(by) + positiveLetters[place.j:place.j+1] + by
		if place.i == place.j {
			left = strings.Repeat(by, int(p.Orders[place.i]))
		}
		relators = append(relators, word(left+inverseBytes(normalBytes(vectorAt(p, place)))))
	}
	return relators
}

func directProductByRules(a impl.Presentation, b impl.Presentation) impl.Presentation {
	n, m := len(a.Orders), len(b.Orders)
	var vectors [][]int64
	for _, place := range relationPlaces(n + m) {
		switch v := trivialVector(n+m, place); {
		case place.j < n:
			vectors = append(vectors, append(slices.Clone(vectorAt(a, place)), make([]int64, m)...))
		case place.i >= n:
			vectors = append(vectors, append(make([]int64, n), vectorAt(b, relationPlace{place.i - n, place.j - n})...))
		default:
			vectors = append(vectors, v)
		}
	}
	return presentation(slices.Concat(a.Orders, b.Orders), vectors)
}

// primeLists are all lists of group primes of up to the given length.
func primeLists(length int) [][]int64 {
	var list [][]int64
	for n := range length + 1 {
		for _, choice := range allVectors(4, n) {
			for i := range choice {
				choice[i] = groupPrimes[choice[i]]
			}
			list = append(list, choice)
		}
	}
	return list
}

// orderLists are the relative orders of all valid presentations.
func orderLists() [][]int64 {
	return slices.DeleteFunc(primeLists(6), func(orders []int64) bool { return orderByRules(orders) > 729 })
}

// allPresentations are the valid ones with these relative orders.
func allPresentations(orders []int64) []impl.Presentation {
	n := len(orders)
	var bounds []int64
	for _, place := range relationPlaces(n) {
		bounds = append(bounds, vectorBounds(orders, place.i)...)
	}
	var list []impl.Presentation
	for _, entries := range vectorsBelow(bounds) {
		list = append(list, presentation(orders, rowsOfEntries(entries, len(relationPlaces(n)), n)))
	}
	return list
}

func smallPresentations() []impl.Presentation {
	var list []impl.Presentation
	for _, orders := range primeLists(2) {
		list = append(list, allPresentations(orders)...)
	}
	for _, orders := range [][]int64{{2, 2, 2}, {3, 2, 2}, {2, 3, 2}, {2, 2, 3}} {
		list = append(list, allPresentations(orders)...)
	}
	return list
}

// presentation leaves about half of the relations trivial.
func (s *scatter) presentation(orders []int64) impl.Presentation {
	var vectors [][]int64
	for _, place := range relationPlaces(len(orders)) {
		v := trivialVector(len(orders), place)
		if s.below(2) == 0 {
			for k, bound := range vectorBounds(orders, place.i) {
				v[k] = s.below(bound)
			}
		}
		vectors = append(vectors, v)
	}
	return presentation(orders, vectors)
}

// fullPresentation has the greatest vectors that there are.
func fullPresentation(orders []int64) impl.Presentation {
	var vectors [][]int64
	for _, place := range relationPlaces(len(orders)) {
		v := vectorBounds(orders, place.i)
		for k := range v {
			v[k]--
		}
		vectors = append(vectors, v)
	}
	return presentation(orders, vectors)
}

func emptyPresentation(orders []int64) impl.Presentation {
	count := len(relationPlaces(len(orders)))
	return presentation(orders, slices.Repeat([][]int64{make([]int64, len(orders))}, count))
}

// samplePresentations are valid, and have all relative orders.
func samplePresentations(s *scatter) []impl.Presentation {
	var list []impl.Presentation
	for _, orders := range orderLists() {
		list = append(list, abelianByRules(orders), fullPresentation(orders), emptyPresentation(orders))
		for range 3 {
			list = append(list, s.presentation(orders))
		}
	}
	return list
}

func mustParse(t *testing.T, text string) impl.Presentation {
	t.Helper()
	p, code := impl.ParsePresentation(text)
	if code != impl.ErrNone {
		t.Fatalf("ParsePresentation(%q) = %v, %d", text, p, code)
	}
	return p
}

func clonePresentation(p impl.Presentation) impl.Presentation {
	clone := impl.Presentation{Orders: slices.Clone(p.Orders), Powers: rowsCloned(p.Powers)}
	for _, conjugates := range p.Conjugates {
		clone.Conjugates = append(clone.Conjugates, rowsCloned(conjugates))
	}
	return clone
}

func rowsCloned(rows [][]int64) [][]int64 {
	var clones [][]int64
	for _, row := range rows {
		clones = append(clones, slices.Clone(row))
	}
	return clones
}

// otherShapes have one list more or one less somewhere.
func otherShapes(p impl.Presentation) []impl.Presentation {
	var list []impl.Presentation
	n := len(p.Orders)
	with := func(change func(q *impl.Presentation)) {
		q := clonePresentation(p)
		change(&q)
		list = append(list, q)
	}
	with(func(q *impl.Presentation) { q.Orders = append(q.Orders, 2) })
	with(func(q *impl.Presentation) { q.Powers = append(q.Powers, make([]int64, n)) })
	with(func(q *impl.Presentation) { q.Powers = append(q.Powers, nil) })
	with(func(q *impl.Presentation) { q.Conjugates = append(q.Conjugates, nil) })
	with(func(q *impl.Presentation) { q.Conjugates = append(q.Conjugates, [][]int64{make([]int64, n)}) })
	if n == 0 {
		return list
	}
	with(func(q *impl.Presentation) { q.Orders = q.Orders[:n-1] })
	with(func(q *impl.Presentation) { q.Orders = nil })
	with(func(q *impl.Presentation) { q.Powers = q.Powers[:n-1] })
	with(func(q *impl.Presentation) { q.Powers = nil })
	with(func(q *impl.Presentation) { q.Conjugates = q.Conjugates[:n-1] })
	with(func(q *impl.Presentation) { q.Conjugates = nil })
	for i := range n {
		with(func(q *impl.Presentation) { q.Powers[i] = q.Powers[i][1:] })
		with(func(q *impl.Presentation) { q.Powers[i] = append(q.Powers[i], 0) })
		with(func(q *impl.Presentation) { q.Powers[i] = nil })
		with(func(q *impl.Presentation) { q.Conjugates[i] = append(q.Conjugates[i], make([]int64, n)) })
		for k := range n - 1 - i {
			with(func(q *impl.Presentation) { q.Conjugates[i] = q.Conjugates[i][1:] })
			with(func(q *impl.Presentation) { q.Conjugates[i] = nil })
			with(func(q *impl.Presentation) { q.Conjugates[i][k] = q.Conjugates[i][k][:n-1] })
			with(func(q *impl.Presentation) { q.Conjugates[i][k] = append(q.Conjugates[i][k], 0) })
			with(func(q *impl.Presentation) { q.Conjugates[i][k] = nil })
		}
	}
	return list
}

// otherEntries have one other number somewhere: the results need not be invalid.
func otherEntries(p impl.Presentation) []impl.Presentation {
	var list []impl.Presentation
	n := len(p.Orders)
	entries := []int64{math.MinInt64, -2, -1, 0, 1, 2, 3, 4, 5, 6, 7, 8, 49, 1 << 32, math.MaxInt64}
	for i := range n {
		for _, order := range append(slices.Clone(outsidePrimes), 2, 3, 5, 7) {
			q := clonePresentation(p)
			q.Orders[i] = order
			list = append(list, q)
		}
	}
	for _, place := range relationPlaces(n) {
		for k := range n {
			for _, entry := range entries {
				q := clonePresentation(p)
				vectorAt(q, place)[k] = entry
				list = append(list, q)
			}
		}
	}
	return list
}

// basePresentations are few, and valid.
func basePresentations(s *scatter) []impl.Presentation {
	var list []impl.Presentation
	for _, orders := range [][]int64{nil, {2}, {7}, {2, 3}, {5, 2}, {3, 3}, {2, 3, 2, 2}, {7, 7, 7}, {5, 5, 5, 5}, {2, 2, 2, 2, 2, 2}, {3, 3, 3, 3, 3, 3}} {
		list = append(list, abelianByRules(orders), s.presentation(orders))
	}
	return list
}

func invalidPresentations(s *scatter) []impl.Presentation {
	list := []impl.Presentation{abelianByRules(times(7, 2)), abelianByRules([]int64{3, 5, 7, 7}), abelianByRules([]int64{2, 3, 3, 3, 3, 3, 3}), abelianByRules([]int64{11}), {Orders: times(100000, 2)}, {Orders: times(64, 2), Powers: make([][]int64, 64), Conjugates: make([][][]int64, 64)}, {Powers: [][]int64{nil}}, {Conjugates: [][][]int64{nil}}, {Orders: []int64{2}}}
	for _, p := range basePresentations(s) {
		list = append(list, otherShapes(p)...)
		list = append(list, otherEntries(p)...)
	}
	return slices.DeleteFunc(list, isPresentationByRules)
}

func checkIsPresentation(t *testing.T, p impl.Presentation) {
	t.Helper()
	if want := isPresentationByRules(p); impl.IsPresentation(p) != want {
		t.Fatalf("IsPresentation(%v) is %v", p, !want)
	}
}

func TestIsPresentation(t *testing.T) {
	if impl.MaxOrder != 729 || impl.MaxElements != 128 {
		t.Errorf("the limits are %d and %d", impl.MaxOrder, impl.MaxElements)
	}
	s := &scatter{71}
	for _, p := range append(smallPresentations(), samplePresentations(s)...) {
		if !impl.IsPresentation(p) {
			t.Fatalf("IsPresentation(%v) is false", p)
		}
	}
	for _, p := range basePresentations(s) {
		for _, q := range append(otherShapes(p), otherEntries(p)...) {
			checkIsPresentation(t, q)
		}
	}
	for _, p := range invalidPresentations(s) {
		if impl.IsPresentation(p) {
			t.Fatalf("IsPresentation(%v) is true", p)
		}
	}
}

// The limits of the number of generators and of the order, by all lists of orders.
func TestPresentationLimits(t *testing.T) {
	for _, orders := range primeLists(7) {
		checkIsPresentation(t, abelianByRules(orders))
	}
	for _, c := range []struct {
		orders []int64
		want   bool
	}{{nil, true}, {times(6, 2), true}, {times(7, 2), false}, {times(6, 3), true}, {[]int64{3, 3, 3, 3, 3, 3, 2}, false}, {[]int64{3, 5, 7, 7}, false}, {[]int64{2, 7, 7, 7}, true}, {[]int64{2, 2, 2, 2, 5, 3, 3}, false}, {[]int64{2, 2, 2, 2, 5, 7}, true}, {[]int64{2, 2, 2, 2, 7, 7}, false}} {
		if impl.IsPresentation(abelianByRules(c.orders)) != c.want {
			t.Errorf("with the orders %v, IsPresentation is %v", c.orders, !c.want)
		}
	}
}

// All vectors with three entries in -1..3, one by one, at each place.
func TestVectorsOfPresentations(t *testing.T) {
	for _, orders := range [][]int64{{2, 3, 2}, {3, 2, 3}, {2, 2, 3}} {
		for _, place := range relationPlaces(3) {
			for _, v := range allVectors(5, 3) {
				for k := range v {
					v[k]--
				}
				p := abelianByRules(orders)
				copy(vectorAt(p, place), v)
				checkIsPresentation(t, p)
			}
		}
	}
}

func checkNormalWord(t *testing.T, p impl.Presentation, e []int64) {
	t.Helper()
	valid := isBounded(e, p.Orders)
	if impl.IsExponentVector(p, e) != valid {
		t.Fatalf("for %v, IsExponentVector of %v is %v", p, e, !valid)
	}
	w, code := impl.NormalWord(p, e)
	if valid {
		checkWord(t, fmt.Sprintf("for %v, NormalWord of %v", p, e), w, code, normalBytes(e), impl.ErrNone)
	} else if len(w) != 0 || code != impl.ErrInvalid {
		t.Fatalf("for %v, NormalWord of %v = %v, %d", p, e, w, code)
	}
}

func TestExponentVectorsAndNormalWords(t *testing.T) {
	s := &scatter{72}
	for _, p := range basePresentations(s) {
		n := len(p.Orders)
		last := make([]int64, n)
		for i, order := range p.Orders {
			last[i] = order - 1
		}
		for _, base := range [][]int64{make([]int64, n), last} {
			checkNormalWord(t, p, base)
			checkNormalWord(t, p, append(slices.Clone(base), 0))
			checkNormalWord(t, p, base[:max(0, n-1)])
			checkNormalWord(t, p, nil)
			checkNormalWord(t, p, make([]int64, 1000))
			for i := range base {
				for _, entry := range []int64{math.MinInt64, -1, 0, 1, 2, 3, 4, 5, 6, 7, 8, math.MaxInt64} {
					e := slices.Clone(base)
					e[i] = entry
					checkNormalWord(t, p, e)
				}
			}
		}
	}
	for _, p := range []impl.Presentation{abelianByRules([]int64{2, 3, 5}), fullPresentation([]int64{3, 2, 7}), fullPresentation([]int64{2, 2, 3, 5})} {
		for _, e := range allVectors(8, len(p.Orders)) {
			checkNormalWord(t, p, e)
		}
	}
}

func checkPresentation(t *testing.T, p impl.Presentation) {
	t.Helper()
	if order, code := impl.PresentationOrder(p); order != orderByRules(p.Orders) || code != impl.ErrNone {
		t.Fatalf("PresentationOrder(%v) = %d, %d", p, order, code)
	}
	if relators, code := impl.PresentationRelators(p); !sameRows(relators, relatorsByRules(p)) || code != impl.ErrNone {
		t.Fatalf("PresentationRelators(%v) = %v, %d", p, relators, code)
	}
	text, code := impl.PresentationText(p)
	if text != textByRules(p) || code != impl.ErrNone {
		t.Fatalf("PresentationText(%v) = %q, %d", p, text, code)
	}
	if q, code := impl.ParsePresentation(text); !samePresentation(q, p) || code != impl.ErrNone {
		t.Fatalf("ParsePresentation(%q) = %v, %d, not %v", text, q, code, p)
	}
}

// The first part of the promise.
func TestTextsAreParsedToTheirPresentations(t *testing.T) {
	s := &scatter{73}
	for _, p := range append(smallPresentations(), samplePresentations(s)...) {
		checkPresentation(t, p)
	}
}

func TestDifferentPresentationsHaveDifferentTexts(t *testing.T) {
	s := &scatter{74}
	known := map[string]impl.Presentation{}
	for _, p := range append(smallPresentations(), samplePresentations(s)...) {
		text, _ := impl.PresentationText(p)
		if q, isKnown := known[text]; isKnown && !samePresentation(p, q) {
			t.Fatalf("%v and %v have the text %q", p, q, text)
		}
		known[text] = p
	}
}

func TestPresentationCases(t *testing.T) {
	for _, c := range []struct {
		orders  []int64
		vectors [][]int64
		text    string
	}{
		{nil, nil, "1"},
		{[]int64{7}, [][]int64{{0}}, "7"},
		{[]int64{2, 3}, [][]int64{{0, 0}, {0, 0}, {0, 1}}, "2 3"},
		{[]int64{2, 3}, [][]int64{{0, 0}, {0, 0}, {0, 2}}, "2 3; b^a=bb"},
		{[]int64{2, 3}, [][]int64{{0, 2}, {0, 0}, {0, 0}}, "2 3; a^2=bb; b^a=1"},
		{[]int64{3, 2}, [][]int64{{0, 0}, {0, 0}, {0, 0}}, "3 2; b^a=1"},
		{[]int64{2, 2, 2}, [][]int64{{0, 0, 1}, {0, 0, 1}, {0, 0, 0}, {0, 1, 1}, {0, 0, 1}, {0, 0, 1}}, "2 2 2; a^2=c; b^2=c; b^a=bc"},
		{[]int64{2, 3, 2, 2}, [][]int64{{0, 0, 0, 0}, {0, 0, 0, 0}, {0, 0, 0, 0}, {0, 0, 0, 0}, {0, 2, 0, 0}, {0, 0, 0, 1}, {0, 0, 1, 0}, {0, 0, 0, 1}, {0, 0, 1, 1}, {0, 0, 0, 1}}, "2 3 2 2; b^a=bb; c^a=d; d^a=c; c^b=d; d^b=cd"},
		{[]int64{7, 7, 7}, [][]int64{{0, 6, 6}, {0, 0, 6}, {0, 0, 0}, {0, 6, 6}, {0, 6, 5}, {0, 0, 6}}, "7 7 7; a^7=bbbbbbcccccc; b^7=cccccc; b^a=bbbbbbcccccc; c^a=bbbbbbccccc; c^b=cccccc"},
	} {
		p := presentation(c.orders, c.vectors)
		checkPresentation(t, p)
		if text, code := impl.PresentationText(p); text != c.text || code != impl.ErrNone {
			t.Errorf("PresentationText(%v) = %q, %d", p, text, code)
		}
	}
	p := mustParse(t, "2 3; b^a=bb")
	if relators, code := impl.PresentationRelators(p); !sameRows(relators, [][]int64{{1, 1}, {2, 2, 2}, {-1, 2, 1, -2, -2}}) || code != impl.ErrNone {
		t.Errorf("PresentationRelators = %v, %d", relators, code)
	}
	if w, code := impl.NormalWord(p, []int64{1, 2}); !slices.Equal(w, []int64{1, 2, 2}) || code != impl.ErrNone {
		t.Errorf("NormalWord = %v, %d", w, code)
	}
	if relators, code := impl.PresentationRelators(impl.Presentation{}); len(relators) != 0 || code != impl.ErrNone {
		t.Errorf("PresentationRelators without generators = %v, %d", relators, code)
	}
}

var presentationPattern = regexp.MustCompile(`\A(1|[2357](?: [2357]){0,5})((?:; [a-f]\^[a-f2357]=(?:1|a*b*c*d*e*f*))*)\z`)

// parseByPattern leaves the zero value where no valid presentation has the text.
func parseByPattern(text string) (impl.Presentation, int64) {
	parts := presentationPattern.FindStringSubmatch(text)
	if parts == nil {
		return impl.Presentation{}, impl.ErrSyntax
	}
	var orders []int64
	for _, digit := range strings.Fields(parts[1]) {
		if digit != "1" {
			orders = append(orders, int64(digit[0]-'0'))
		}
	}
	p := abelianByRules(orders)
	places := relationPlaces(len(orders))
	for _, equation := range strings.Split(parts[2], "; ")[1:] {
		left, right, _ := strings.Cut(equation, "=")
		for len(places) > 0 && leftByRules(orders, places[0]) != left {
			places = places[1:]
		}
		if len(places) == 0 || right == "" {
			return impl.Presentation{}, impl.ErrSyntax
		}
		v := vectorAt(p, places[0])
		for k := range v {
			v[k] = int64(strings.Count(right, positiveLetters[k:k+1]))
		}
		// A letter without a generator was not counted.
		if slices.Equal(v, trivialVector(len(v), places[0])) || len(normalBytes(v)) != len(strings.Trim(right, "1")) {
			return impl.Presentation{}, impl.ErrSyntax
		}
		places = places[1:]
	}
	if !isPresentationByRules(p) {
		return impl.Presentation{}, impl.ErrSyntax
	}
	return p, impl.ErrNone
}

func leftByRules(orders []int64, place relationPlace) string {
	if place.i == place.j {
		return fmt.Sprintf("%c^%d", positiveLetters[place.j], orders[place.i])
	}
	return fmt.Sprintf("%c^%c", positiveLetters[place.j], positiveLetters[place.i])
}

func checkParsePresentation(t *testing.T, text string) {
	t.Helper()
	want, wantCode := parseByPattern(text)
	if p, code := impl.ParsePresentation(text); !samePresentation(p, want) || code != wantCode {
		t.Fatalf("ParsePresentation(%q) = %v, %d, not %v, %d", text, p, code, want, wantCode)
	}
}

func changedTexts() []string {
	texts := []string{"1", "2", "2 3", "7 7 7", "2 2; a^2=b", "2 3; b^a=bb", "2 3; b^a=1", "3 2; a^3=b; b^a=1", "2 5; a^2=bbbb; b^a=bbbb", "2 2 2; a^2=c; b^2=c; b^a=bc", "2 2 3; a^2=b; b^2=c", "2 3 2 2; b^a=bb; c^a=d; d^a=c; c^b=d; d^b=cd", "3 3 3 3 3 3; a^3=b; b^3=ffe; f^e=ff", "2 2 2 2 2 2; e^2=f; f^e=1"}
	for _, p := range []impl.Presentation{fullPresentation([]int64{2, 3, 2}), emptyPresentation([]int64{2, 2, 2})} {
		texts = append(texts, textByRules(p))
	}
	return texts
}

func TestParsePresentationAfterOneChange(t *testing.T) {
	for _, text := range changedTexts() {
		checkParsePresentation(t, text)
		for i := range len(text) + 1 {
			for change := range 256 {
				checkParsePresentation(t, text[:i]+string([]byte{byte(change)})+text[i:])
				if i < len(text) {
					checkParsePresentation(t, text[:i]+string([]byte{byte(change)})+text[i+1:])
				}
			}
			for j := i; j <= len(text); j++ {
				checkParsePresentation(t, text[:i]+text[j:])
				checkParsePresentation(t, text[i:j])
				checkParsePresentation(t, text[:j]+text[i:])
			}
		}
	}
}

// Relations in another order, twice, left out, or after other relative orders.
func TestParsePresentationOfShuffledRelations(t *testing.T) {
	var parts []string
	for _, text := range changedTexts() {
		parts = append(parts, strings.Split(text, "; ")...)
	}
	slices.Sort(parts)
	parts = slices.Compact(parts)
	for _, first := range parts {
		for _, second := range parts {
			checkParsePresentation(t, first+"; "+second)
			for _, third := range parts {
				checkParsePresentation(t, first+"; "+second+"; "+third)
			}
		}
	}
}

// All short texts of the bytes that texts have, behind beginnings of texts.
func TestParsePresentationBySearch(t *testing.T) {
	const letters = "1235 ;^=abc"
	for n := range 5 {
		for _, v := range allVectors(int64(len(letters)), n) {
			text := make([]byte, n)
			for i, at := range v {
				text[i] = letters[at]
			}
			for _, start := range []string{"", "2 3; ", "2 3; b^a", "2 3; b^a=", "2 3 2; a^2=", "3 3 3; a^3=b; c^a=", "3 2 2; a^3=bc; "} {
				checkParsePresentation(t, start+string(text))
			}
		}
	}
}

func TestParsePresentationErrors(t *testing.T) {
	long := strings.Repeat("; b^a=bb", 10000)
	for _, text := range []string{
		"", " ", "0", "4", "6", "8", "11", "23", "02", "+2", "-2", "2.0", "0x2", "2_", "2 ", " 2", "2  3", "2\t3", "2\n", "2\x00", "2,3", "1 1", "1 2", "2 1", "2 4", "1;", "1; ", "2;", "2; ", "2 3; ", "; ", ";", "; b^a=bb", "2 2 2 2 2 2 2", "3 5 7 7", "3 3 3 3 3 3 2", "3 3 3 3 3 3 3", "18446744073709551618", "\u0662", "\uff12", "\xff", "a", "A", "a^2=1",
		"1; a^2=b", "2; a^2=1", "2; a^2=a", "2; a^2=b", "2; a^a=a", "2; b^2=1", "2; b^a=b", "2; b^a=1", "2 3; a^2=1", "2 3; a^2=", "2 3; a^2=bbb", "2 3; a^2=a", "2 3; a^2=c", "2 3; a^2=ab", "2 3; b^2=1", "2 3; b^3=1", "2 3; b^3=a", "2 3; b^3=b", "2 3; b^a=b", "2 3; b^a=bbb", "2 3; b^a=ab", "2 3; b^a=a", "2 3; b^a=", "2 3; b^a", "2 3; b^a=B", "2 3; b^a=BB", "2 3; b^a=bB", "2 3; b^a=bbBb", "2 3; b^a=b b", "2 3; b^a=11", "2 3; b^a=1b", "2 3; b^a=b1", "2 3; b^a=0", "2 3; a^b=a", "2 3; b^b=bb", "2 3; c^a=c", "2 3; c^a=1", "2 3; B^a=bb", "2 3; b^A=bb",
		"2 3;b^a=bb", "2 3;  b^a=bb", "2 3 ; b^a=bb", "2 3; b^a =bb", "2 3; b^a= bb", "2 3; b^a=bb ", "2 3; b^a=bb\n", "2 3; b^a=bb;", "2 3; b^a=bb; ", "2 3, b^a=bb", "2 3; b^a=bb; b^a=bb", "2 3; b^a=bb; b^a=1", "2 3; b^a=1; b^a=bb", "2 3; b^a=bb; a^2=bb", "2 3; b^a==bb", "2 3; b^^a=bb", "2 3; ba=bb", "2 3; b^02=a", "2 3; a^02=bb", "2 3; a^ 2=bb", "2 3; a^3=bb", "2 3; a^2=b; a^2=b", "2 3; a^2=b; a^2=bb",
		"2 2 2; b^2=c; a^2=c", "2 2 2; b^a=bc; b^2=c", "2 2 2; b^a=cb", "2 2 2; c^b=1; c^a=1", "2 2 2; c^a=1; b^a=1", "2 2 2; c^b=b", "2 2 2; c^b=bc", "2 2 2; b^2=b", "2 2 2; b^2=bc", "2 2 2; c^2=1", "2 2 2; c^2=c", "2 2 2; c^a=a", "2 2 2; d^a=1",
		"2 3" + long, "2 3; b^a=" + strings.Repeat("b", 100000), "2 3; b^a=" + strings.Repeat("bB", 100000), "2 3; b^a=" + strings.Repeat("bB", 31) + "bb", strings.Repeat("2 ", 100000), strings.Repeat("2", 100000), strings.Repeat("; ", 100000), strings.Repeat("1", 100000), strings.Repeat("0", 100) + "2",
	} {
		if p, code := impl.ParsePresentation(text); !samePresentation(p, impl.Presentation{}) || code != impl.ErrSyntax {
			t.Errorf("ParsePresentation(%.60q) = %v, %d", text, p, code)
		}
		checkParsePresentation(t, text)
	}
}

// abelianCode follows the errors in their order.
func abelianCode(orders []int64) int64 {
	switch {
	case len(orders) > 6:
		return impl.ErrLimit
	case !haveGroupPrimes(orders):
		return impl.ErrRange
	case orderByRules(orders) > 729:
		return impl.ErrLimit
	}
	return impl.ErrNone
}

func checkAbelianPresentation(t *testing.T, orders []int64) {
	t.Helper()
	want, wantCode := impl.Presentation{}, abelianCode(orders)
	if wantCode == impl.ErrNone {
		want = abelianByRules(orders)
	}
	if p, code := impl.AbelianPresentation(orders); !samePresentation(p, want) || code != wantCode {
		t.Fatalf("AbelianPresentation(%v) = %v, %d, not %v, %d", orders, p, code, want, wantCode)
	}
}

func TestAbelianPresentation(t *testing.T) {
	for _, orders := range primeLists(7) {
		checkAbelianPresentation(t, orders)
	}
	for _, orders := range append(primeLists(3), times(5, 2), times(5, 7), times(6, 2), times(6, 7), times(7, 2), times(7, 7), times(100000, 2)) {
		for i := range min(len(orders), 7) {
			for _, wrong := range append(slices.Clone(outsidePrimes), 1<<32+2, 729, 121) {
				changed := slices.Clone(orders)
				changed[i] = wrong
				checkAbelianPresentation(t, changed)
			}
		}
	}
}

func TestAbelianCases(t *testing.T) {
	for _, c := range []struct {
		orders []int64
		text   string
		code   int64
	}{
		{nil, "1", impl.ErrNone}, {[]int64{2, 3}, "2 3", impl.ErrNone}, {[]int64{3, 2}, "3 2", impl.ErrNone}, {times(6, 3), "3 3 3 3 3 3", impl.ErrNone}, {[]int64{7, 7, 7, 2}, "7 7 7 2", impl.ErrNone},
		{[]int64{7, 7, 7, 3}, "", impl.ErrLimit}, {times(7, 2), "", impl.ErrLimit}, {times(7, 1), "", impl.ErrLimit}, {times(6, 1), "", impl.ErrRange}, {[]int64{7, 7, 7, 7, 1}, "", impl.ErrRange}, {[]int64{7, 7, 7, 7, 7, 7}, "", impl.ErrLimit}, {[]int64{11}, "", impl.ErrRange}, {[]int64{0}, "", impl.ErrRange}, {[]int64{math.MaxInt64, math.MaxInt64}, "", impl.ErrRange},
	} {
		p, code := impl.AbelianPresentation(c.orders)
		if code != c.code {
			t.Errorf("AbelianPresentation(%v) has the code %d", c.orders, code)
		} else if text, _ := impl.PresentationText(p); code == impl.ErrNone && text != c.text {
			t.Errorf("AbelianPresentation(%v) has the text %q", c.orders, text)
		}
	}
}

// cyclicByTrial follows the definition, and the errors in their order.
func cyclicByTrial(n int64) (impl.Presentation, int64) {
	if n < 1 || n > 729 {
		return impl.Presentation{}, impl.ErrRange
	}
	var orders []int64
	for rest, p := n, int64(2); rest > 1; {
		if rest%p != 0 {
			p++
			continue
		}
		orders, rest = append(orders, p), rest/p
	}
	if !haveGroupPrimes(orders) {
		return impl.Presentation{}, impl.ErrRange
	}
	if len(orders) > 6 {
		return impl.Presentation{}, impl.ErrLimit
	}
	p := abelianByRules(orders)
	for i := 1; i < len(orders); i++ {
		p.Powers[i-1][i] = 1
	}
	return p, impl.ErrNone
}

func TestCyclicPresentation(t *testing.T) {
	list := append(slices.Clone(anyIntegers), 823543, 1<<20, 1<<32+2)
	for n := int64(-800); n <= 3000; n++ {
		list = append(list, n)
	}
	for _, n := range list {
		want, wantCode := cyclicByTrial(n)
		if p, code := impl.CyclicPresentation(n); !samePresentation(p, want) || code != wantCode {
			t.Fatalf("CyclicPresentation(%d) = %v, %d, not %v, %d", n, p, code, want, wantCode)
		}
	}
}

func TestCyclicCases(t *testing.T) {
	for _, c := range []struct {
		n    int64
		text string
		code int64
	}{
		{1, "1", impl.ErrNone}, {2, "2", impl.ErrNone}, {6, "2 3; a^2=b", impl.ErrNone}, {12, "2 2 3; a^2=b; b^2=c", impl.ErrNone}, {49, "7 7; a^7=b", impl.ErrNone}, {64, "2 2 2 2 2 2; a^2=b; b^2=c; c^2=d; d^2=e; e^2=f", impl.ErrNone}, {729, "3 3 3 3 3 3; a^3=b; b^3=c; c^3=d; d^3=e; e^3=f", impl.ErrNone}, {560, "2 2 2 2 5 7; a^2=b; b^2=c; c^2=d; d^2=e; e^5=f", impl.ErrNone},
		{0, "", impl.ErrRange}, {-6, "", impl.ErrRange}, {730, "", impl.ErrRange}, {11, "", impl.ErrRange}, {704, "", impl.ErrRange}, {128, "", impl.ErrLimit}, {192, "", impl.ErrLimit}, {256, "", impl.ErrLimit}, {288, "", impl.ErrLimit}, {512, "", impl.ErrLimit}, {672, "", impl.ErrLimit}, {1024, "", impl.ErrRange},
	} {
		p, code := impl.CyclicPresentation(c.n)
		text, _ := impl.PresentationText(p)
		if code != c.code || code == impl.ErrNone && text != c.text {
			t.Errorf("CyclicPresentation(%d) has the text %q and the code %d", c.n, text, code)
		}
	}
}

// cosets enumerates the elements of a group with relators, by the method of Todd and Coxeter. A
// generator has the column 2i, its inverse the next one, and -1 stands where an element is not known.
type cosets struct {
	next   [][]int
	merged []int // a smaller coset that is the same, or the coset itself
	queue  []int
}

const maxCosets = 200000

func columnOf(letter int64) int {
	if letter < 0 {
		return int(-2*letter) - 1
	}
	return int(2*letter) - 2
}

func (c *cosets) current(coset int) int {
	for c.merged[coset] != coset {
		coset = c.merged[coset]
	}
	return coset
}

func (c *cosets) add(columns int) int {
	row := make([]int, columns)
	for i := range row {
		row[i] = -1
	}
	c.next, c.merged = append(c.next, row), append(c.merged, len(c.merged))
	return len(c.next) - 1
}

func (c *cosets) link(from int, column int, to int) {
	c.next[from][column], c.next[to][column^1] = to, from
}

func (c *cosets) merge(a int, b int) {
	if a, b = c.current(a), c.current(b); a != b {
		c.merged[max(a, b)] = min(a, b)
		c.queue = append(c.queue, max(a, b))
	}
}

// identify merges two cosets and all that are then the same too.
func (c *cosets) identify(a int, b int) {
	for c.merge(a, b); len(c.queue) > 0; c.queue = c.queue[1:] {
		dead := c.queue[0]
		for column, to := range c.next[dead] {
			if to < 0 {
				continue
			}
			c.next[dead][column], c.next[to][column^1] = -1, -1
			from, to := c.current(dead), c.current(to)
			if other := c.next[from][column]; other >= 0 {
				c.merge(to, other)
			} else if other := c.next[to][column^1]; other >= 0 {
				c.merge(from, other)
			} else {
				c.link(from, column, to)
			}
		}
	}
}

// closeLoop makes a word lead from a coset to itself.
func (c *cosets) closeLoop(start int, w []int64) {
	front, back := start, start
	for {
		for len(w) > 0 && c.next[front][columnOf(w[0])] >= 0 {
			front, w = c.next[front][columnOf(w[0])], w[1:]
		}
		for len(w) > 0 && c.next[back][columnOf(-w[len(w)-1])] >= 0 {
			back, w = c.next[back][columnOf(-w[len(w)-1])], w[:len(w)-1]
		}
		switch len(w) {
		case 0:
			c.identify(front, back)
			return
		case 1:
			c.link(front, columnOf(w[0]), back)
			return
		}
		c.link(front, columnOf(w[0]), c.add(len(c.next[front])))
	}
}

func enumerated(t *testing.T, n int, relators [][]int64) *cosets {
	t.Helper()
	c := &cosets{}
	c.add(2 * n)
	for coset := 0; coset < len(c.next); coset++ {
		if len(c.next) > maxCosets {
			t.Fatalf("there are too many cosets for %v", relators)
		}
		for _, relator := range relators {
			if c.merged[coset] == coset {
				c.closeLoop(coset, relator)
			}
		}
		for column := range c.next[coset] {
			if c.merged[coset] == coset && c.next[coset][column] < 0 {
				c.link(coset, column, c.add(2*n))
			}
		}
	}
	return c
}

func (c *cosets) count() int64 {
	count := int64(0)
	for coset, merged := range c.merged {
		if coset == merged {
			count++
		}
	}
	return count
}

// groupOrder is the order of the group of a presentation.
func groupOrder(t *testing.T, p impl.Presentation) int64 {
	t.Helper()
	relators, code := impl.PresentationRelators(p)
	if code != impl.ErrNone {
		t.Fatalf("PresentationRelators(%v) has the code %d", p, code)
	}
	return enumerated(t, len(p.Orders), relators).count()
}

func TestRelatorsDefineTheGroup(t *testing.T) {
	for _, c := range []struct {
		text  string
		order int64
	}{
		{"1", 1}, {"2", 2}, {"7", 7}, {"2 3", 6}, {"2 3; b^a=bb", 6}, {"2 2 2; a^2=c; b^2=c; b^a=bc", 8}, {"2 2 3; a^2=b; b^2=c", 12}, {"3 2 2; b^a=c; c^a=bc", 12}, {"2 3 2 2; b^a=bb; c^a=d; d^a=c; c^b=d; d^b=cd", 24}, {"3 7; b^a=bb", 21}, {"3 3 3; b^a=bc", 27}, {"5 5 5; b^a=bc", 125}, {"2 2 2 2 2 2", 64}, {"3 3 3 3 3 3; a^3=b", 729}, {"7 7 7; b^a=bc", 343},
		{"2 5; b^a=bb", 2}, {"2 3; a^2=b; b^a=bb", 2}, {"2 3; b^a=1", 2}, {"2 3; a^2=b; b^a=1", 2}, {"3 2; a^3=b; b^a=1", 3}, {"3 7; b^a=bbb", 3}, {"2 2 2; b^a=c", 4}, {"2 2; b^a=1", 2}, {"7 7 7; b^a=1; c^b=1", 7},
	} {
		if order := groupOrder(t, mustParse(t, c.text)); order != c.order {
			t.Errorf("the group of %q has the order %d", c.text, order)
		}
	}
}

func TestCyclicPresentationsDefineCyclicGroups(t *testing.T) {
	for n := int64(2); n <= impl.MaxOrder; n++ {
		p, code := impl.CyclicPresentation(n)
		if code != impl.ErrNone {
			continue
		}
		c := enumerated(t, len(p.Orders), relatorsByRules(p))
		length := int64(1)
		for coset := c.next[0][0]; coset != 0; coset = c.next[coset][0] {
			length++
		}
		if length != n || c.count() != n {
			t.Fatalf("the group of CyclicPresentation(%d) has the order %d, and the first generator has the order %d", n, c.count(), length)
		}
	}
}

// permutationsOf are all lists of the numbers 0 to n - 1.
func permutationsOf(n int) [][]int64 {
	return slices.DeleteFunc(allVectors(int64(n), n), func(v []int64) bool {
		sorted := slices.Sorted(slices.Values(v))
		return len(slices.Compact(sorted)) < n
	})
}

// apply follows a word of permutations from left to right.
func apply(w []int64, images [][]int64, point int64) int64 {
	for _, letter := range w {
		if letter < 0 {
			point = int64(slices.Index(images[-letter-1], point))
		} else {
			point = images[letter-1][point]
		}
	}
	return point
}

func doesHold(left string, right string, images [][]int64) bool {
	for point := range images[0] {
		if apply(word(left), images, int64(point)) != apply(word(right), images, int64(point)) {
			return false
		}
	}
	return true
}

func doRelationsHold(p impl.Presentation, images [][]int64) bool {
	for _, place := range relationPlaces(len(p.Orders)) {
		by, moved, right := positiveLetters[place.i:place.i+1], positiveLetters[place.j:place.j+1], normalBytes(vectorAt(p, place))
		if place.i == place.j && !doesHold(strings.Repeat(by, int(p.Orders[place.i])), right, images) {
			return false
		}
		if place.i != place.j && !doesHold(moved+by, by+right, images) {
			return false
		}
	}
	return true
}

// A part of the guarantee of the chapter, for all permutations of four points as generators.
func TestRelatorsHoldWhereTheRelationsHold(t *testing.T) {
	permutations := permutationsOf(4)
	holding := 0
	for _, p := range append(append(allPresentations([]int64{2, 2}), allPresentations([]int64{2, 3})...), append(allPresentations([]int64{3, 2}), allPresentations([]int64{3, 3})...)...) {
		relators, _ := impl.PresentationRelators(p)
		for _, first := range permutations {
			for _, second := range permutations {
				images := [][]int64{first, second}
				want := doRelationsHold(p, images)
				got := !slices.ContainsFunc(relators, func(relator []int64) bool { return !doesHold(bytesOf(relator), "", images) })
				if got != want {
					t.Fatalf("for %v with the generators %v, the relations hold: %v, the relators hold: %v", p, images, want, got)
				}
				if want {
					holding++
				}
			}
		}
	}
	if holding < 100 {
		t.Errorf("only %d times the relations hold", holding)
	}
}

func checkDirectProduct(t *testing.T, a impl.Presentation, b impl.Presentation) {
	t.Helper()
	want := directProductByRules(a, b)
	wantCode := int64(impl.ErrNone)
	if !isPresentationByRules(want) {
		want, wantCode = impl.Presentation{}, impl.ErrLimit
	}
	if p, code := impl.DirectProduct(a, b); !samePresentation(p, want) || code != wantCode {
		t.Fatalf("DirectProduct(%v, %v) = %v, %d, not %v, %d", a, b, p, code, want, wantCode)
	}
}

func TestDirectProduct(t *testing.T) {
	s := &scatter{75}
	bases := basePresentations(s)
	list := append(samplePresentations(s), bases...)
	for i, p := range list {
		for k, q := range bases {
			if (i+k)%7 == 0 {
				checkDirectProduct(t, p, q)
				checkDirectProduct(t, q, p)
			}
		}
		checkDirectProduct(t, p, p)
		checkDirectProduct(t, p, list[s.below(int64(len(list)))])
		if same, code := impl.DirectProduct(p, impl.Presentation{}); !samePresentation(same, p) || code != impl.ErrNone {
			t.Fatalf("the product of %v and the trivial presentation is %v, %d", p, same, code)
		}
		if same, code := impl.DirectProduct(impl.Presentation{}, p); !samePresentation(same, p) || code != impl.ErrNone {
			t.Fatalf("the product of the trivial presentation and %v is %v, %d", p, same, code)
		}
	}
}

func TestDirectProductCases(t *testing.T) {
	for _, c := range []struct {
		a, b, product string
		code          int64
	}{
		{"1", "1", "1", impl.ErrNone}, {"2", "2 3; b^a=bb", "2 2 3; c^b=cc", impl.ErrNone}, {"2 3; b^a=bb", "2", "2 3 2; b^a=bb", impl.ErrNone}, {"2 3; b^a=1", "2 2; a^2=b", "2 3 2 2; c^2=d; b^a=1", impl.ErrNone}, {"2 2; a^2=b", "2 2; a^2=b", "2 2 2 2; a^2=b; c^2=d", impl.ErrNone}, {"2 3; a^2=b; b^a=bb", "3 2; a^3=b; b^a=1", "2 3 3 2; a^2=b; c^3=d; b^a=bb; d^c=1", impl.ErrNone},
		{"3 3 3", "3 3 3; b^a=bc", "3 3 3 3 3 3; e^d=ef", impl.ErrNone}, {"7 7 7", "2", "7 7 7 2", impl.ErrNone}, {"7 7 7", "3", "1", impl.ErrLimit}, {"2 2 2 2 2 2", "2", "1", impl.ErrLimit}, {"2", "2 2 2 2 2 2", "1", impl.ErrLimit}, {"5 7 7", "3", "1", impl.ErrLimit}, {"3 3 3 3 3 3", "3 3 3 3 3 3", "1", impl.ErrLimit}, {"2 2 2 2 2 2", "1", "2 2 2 2 2 2", impl.ErrNone},
	} {
		p, code := impl.DirectProduct(mustParse(t, c.a), mustParse(t, c.b))
		if text, _ := impl.PresentationText(p); text != c.product || code != c.code {
			t.Errorf("DirectProduct of %q and %q has the text %q, and the code is %d", c.a, c.b, text, code)
		}
	}
}

// consistencyPresentations has consistent ones and others.
func consistencyPresentations(t *testing.T, s *scatter) []impl.Presentation {
	var list []impl.Presentation
	for _, orders := range [][]int64{nil, {2}, {3}, {2, 2}, {2, 3}, {3, 2}, {3, 3}} {
		list = append(list, allPresentations(orders)...)
	}
	for _, text := range []string{"5", "7", "2 5; b^a=bb", "2 5; b^a=bbbb", "3 7; b^a=bb", "2 2 2; a^2=c; b^2=c; b^a=bc", "2 2 2; a^2=c; b^2=c", "2 2 2; a^2=b; c^a=1", "2 2 3; a^2=b; b^2=c", "2 2 3; c^a=cc; c^b=cc", "2 2 3; a^2=b; c^b=cc", "3 2 2; b^a=c; c^a=bc", "3 2 2; b^a=c; c^a=b", "2 3 2 2; b^a=bb; c^a=d; d^a=c; c^b=d; d^b=cd", "2 3 2 2; b^a=bb; c^a=d; d^a=c; c^b=d", "3 3 3; b^a=bc", "3 3 3; b^a=cc"} {
		list = append(list, mustParse(t, text))
	}
	for _, orders := range [][]int64{{2, 2, 2}, {2, 2, 3}, {3, 2, 2}, {2, 2, 2, 2}} {
		for range 8 {
			list = append(list, s.presentation(orders))
		}
	}
	return list
}

// The second part of the promise, for the group itself and for IsConsistent: a presentation is
// consistent exactly if its group, which has at most this order, has the order that
// PresentationOrder returns.
func TestDirectProductIsConsistentExactlyIfBothFactorsAre(t *testing.T) {
	list := consistencyPresentations(t, &scatter{76})
	kinds := map[[2]bool]int{}
	var orders []int64
	for _, p := range list {
		orders = append(orders, groupOrder(t, p))
	}
	for i, a := range list {
		for j, b := range list {
			p, code := impl.DirectProduct(a, b)
			if code != impl.ErrNone {
				continue
			}
			orderOfA, _ := impl.PresentationOrder(a)
			orderOfB, _ := impl.PresentationOrder(b)
			order, _ := impl.PresentationOrder(p)
			first, second, actual := orders[i] == orderOfA, orders[j] == orderOfB, groupOrder(t, p)
			kinds[[2]bool{first, second}]++
			if (actual == order) != (first && second) || actual != orders[i]*orders[j] {
				t.Fatalf("the groups of %v, %v and their product have the orders %d, %d and %d", a, b, orders[i], orders[j], actual)
			}
			if impl.IsConsistent(a) != first || impl.IsConsistent(b) != second || impl.IsConsistent(p) != (first && second) {
				t.Fatalf("IsConsistent is %v for %v, %v for %v, and %v for their product", impl.IsConsistent(a), a, impl.IsConsistent(b), b, impl.IsConsistent(p))
			}
		}
	}
	if len(kinds) != 4 || min(kinds[[2]bool{true, true}], kinds[[2]bool{true, false}], kinds[[2]bool{false, true}], kinds[[2]bool{false, false}]) < 100 {
		t.Errorf("of the factors, this many are consistent: %v", kinds)
	}
}

func checkInvalidPresentation(t *testing.T, p impl.Presentation) {
	t.Helper()
	if order, code := impl.PresentationOrder(p); order != 0 || code != impl.ErrInvalid {
		t.Fatalf("PresentationOrder(%v) = %d, %d", p, order, code)
	}
	if text, code := impl.PresentationText(p); text != "" || code != impl.ErrInvalid {
		t.Fatalf("PresentationText(%v) = %q, %d", p, text, code)
	}
	if relators, code := impl.PresentationRelators(p); len(relators) != 0 || code != impl.ErrInvalid {
		t.Fatalf("PresentationRelators(%v) = %v, %d", p, relators, code)
	}
	for _, e := range [][]int64{nil, make([]int64, len(p.Orders)), times(len(p.Orders), 1)} {
		if w, code := impl.NormalWord(p, e); impl.IsExponentVector(p, e) || len(w) != 0 || code != impl.ErrInvalid {
			t.Fatalf("for %v, NormalWord of %v = %v, %d, and IsExponentVector is %v", p, e, w, code, impl.IsExponentVector(p, e))
		}
	}
}

func checkInvalidProduct(t *testing.T, a impl.Presentation, b impl.Presentation) {
	t.Helper()
	if p, code := impl.DirectProduct(a, b); !samePresentation(p, impl.Presentation{}) || code != impl.ErrInvalid {
		t.Fatalf("DirectProduct(%v, %v) = %v, %d", a, b, p, code)
	}
}

// An invalid factor is an error ahead of a product beyond the limits.
func TestInvalidPresentationsAreErrors(t *testing.T) {
	s := &scatter{77}
	full := abelianByRules(times(6, 3))
	for _, p := range invalidPresentations(s) {
		checkInvalidPresentation(t, p)
		for _, q := range []impl.Presentation{{}, full, p} {
			checkInvalidProduct(t, p, q)
			checkInvalidProduct(t, q, p)
		}
	}
}

// claim counts the memory of a list, behind its end too, and reports whether it is nobody else's.
func claim[E any](owned map[any]bool, list []E) bool {
	for i := range list[:cap(list)] {
		if at := &list[:cap(list)][i]; owned[at] {
			return false
		} else {
			owned[at] = true
		}
	}
	return true
}

func claimRows(owned map[any]bool, rows [][]int64) bool {
	free := claim(owned, rows)
	for _, row := range rows {
		free = claim(owned, row) && free
	}
	return free
}

func claimPresentation(owned map[any]bool, p impl.Presentation) bool {
	free := claim(owned, p.Orders) && claimRows(owned, p.Powers) && claim(owned, p.Conjugates)
	for _, conjugates := range p.Conjugates {
		free = claimRows(owned, conjugates) && free
	}
	return free
}

func roomyRows(rows [][]int64) [][]int64 {
	var list [][]int64
	for _, row := range rows {
		list = append(list, roomy(row))
	}
	return append(list, []int64{91}, []int64{92})[:len(rows)]
}

func roomyPresentation(p impl.Presentation) impl.Presentation {
	room := impl.Presentation{Orders: roomy(p.Orders), Powers: roomyRows(p.Powers)}
	for _, conjugates := range p.Conjugates {
		room.Conjugates = append(room.Conjugates, roomyRows(conjugates))
	}
	room.Conjugates = append(room.Conjugates, [][]int64{{93}}, [][]int64{{94}})[:len(p.Conjugates)]
	return room
}

func fullRows(rows [][]int64) string {
	text := ""
	for _, row := range rows[:cap(rows)] {
		text += fmt.Sprint(row[:cap(row)])
	}
	return text
}

// fullContent shows a presentation behind the ends of its lists too.
func fullContent(p impl.Presentation) string {
	text := fmt.Sprint(p.Orders[:cap(p.Orders)]) + fullRows(p.Powers)
	for _, conjugates := range p.Conjugates[:cap(p.Conjugates)] {
		text += "; " + fullRows(conjugates)
	}
	return text
}

// presentationCalls have all functions of the chapter, each with the claim to the memory of its result.
func presentationCalls(a impl.Presentation, b impl.Presentation, e []int64) map[string]func(owned map[any]bool) (string, bool) {
	made := func(owned map[any]bool, p impl.Presentation, code int64) (string, bool) {
		return fmt.Sprint(p, code), claimPresentation(owned, p)
	}
	return map[string]func(map[any]bool) (string, bool){
		"NormalWord": func(owned map[any]bool) (string, bool) {
			w, code := impl.NormalWord(a, e)
			return fmt.Sprint(w, code), claim(owned, w)
		},
		"PresentationRelators": func(owned map[any]bool) (string, bool) {
			relators, code := impl.PresentationRelators(a)
			return fmt.Sprint(relators, code), claimRows(owned, relators)
		},
		"the text and what is parsed": func(owned map[any]bool) (string, bool) {
			text, _ := impl.PresentationText(a)
			p, code := impl.ParsePresentation(text)
			return made(owned, p, code)
		},
		"the order and the tests": func(map[any]bool) (string, bool) {
			order, code := impl.PresentationOrder(a)
			return fmt.Sprint(order, code, impl.IsPresentation(a), impl.IsExponentVector(a, e)), true
		},
		"AbelianPresentation": func(owned map[any]bool) (string, bool) {
			p, code := impl.AbelianPresentation(e)
			return made(owned, p, code)
		},
		"AbelianPresentation of the orders": func(owned map[any]bool) (string, bool) {
			p, code := impl.AbelianPresentation(a.Orders)
			return made(owned, p, code)
		},
		"CyclicPresentation": func(owned map[any]bool) (string, bool) {
			p, code := impl.CyclicPresentation(int64(len(e)) * 12)
			return made(owned, p, code)
		},
		"DirectProduct": func(owned map[any]bool) (string, bool) {
			p, code := impl.DirectProduct(a, b)
			return made(owned, p, code)
		},
		"a square": func(owned map[any]bool) (string, bool) {
			p, code := impl.DirectProduct(a, a)
			return made(owned, p, code)
		},
	}
}

// checkCalls calls each function twice, and compares contents, which shows all arguments behind the ends of their lists too.
func checkCalls(t *testing.T, calls map[string]func(owned map[any]bool) (string, bool), claimArguments func(owned map[any]bool), contents func() string) {
	t.Helper()
	before := contents()
	for name, call := range calls {
		owned := map[any]bool{}
		claimArguments(owned)
		first, isFree := call(owned)
		if !isFree {
			t.Fatalf("%s of %s: two lists share memory", name, before)
		}
		if after := contents(); after != before {
			t.Fatalf("%s: the arguments %s became %s", name, before, after)
		}
		// The memory of the first result is still owned.
		if second, isFree := call(owned); second != first || !isFree {
			t.Fatalf("%s of %s is %s, and then %s", name, before, first, second)
		}
	}
}

func checkPresentationMemory(t *testing.T, a impl.Presentation, b impl.Presentation, e []int64) {
	t.Helper()
	a, b, e = roomyPresentation(a), roomyPresentation(b), roomy(e)
	claimArguments := func(owned map[any]bool) {
		claimPresentation(owned, a)
		claimPresentation(owned, b)
		claim(owned, e)
	}
	contents := func() string { return fullContent(a) + fullContent(b) + fmt.Sprint(fullVector(e)) }
	checkCalls(t, presentationCalls(a, b, e), claimArguments, contents)
}

func TestPresentationArgumentsStayAndResultsAreNew(t *testing.T) {
	s := &scatter{78}
	list := samplePresentations(s)
	for i, p := range list {
		if i%16 == 0 {
			e := slices.Clone(p.Orders)
			for k, order := range p.Orders {
				e[k] = s.below(order)
			}
			checkPresentationMemory(t, p, list[s.below(int64(len(list)))], e)
			checkPresentationMemory(t, p, mustParse(t, "2"), p.Orders)
		}
	}
	for i, p := range invalidPresentations(s) {
		if i%20 == 0 && len(p.Orders) < 10 {
			checkPresentationMemory(t, p, list[0], []int64{1})
			checkPresentationMemory(t, list[0], p, nil)
		}
	}
}
