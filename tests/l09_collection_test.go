package tests

import (
	"fmt"
	"math"
	"slices"
	"strings"
	"testing"

	"loop.example/g01076/impl"
)

// These groups have long collections. In the one of slowText, slowWord takes exactly MaxSteps steps; in the one of
// wideText, wideWord has exactly MaxWork letters on the way.
const (
	slowText = "2 7 7; a^2=bbbbbcccccc; b^a=bbbbbccc; c^a=bbbbbbcc"
	slowWord = "ccccbbaaaccccbbaaaccccbbaaaccccbbaaaccccbbaaa"
	wideText = "2 7 7 7; b^a=bbbccccdddd; c^a=bbbbbbcccccdddddd; d^a=bbbbbbccccccddddd"
	wideWord = "bbbccccccdddddda" + "dddddddddddddddddd"
)

var outsideLimits = []int64{math.MinInt64, -1 << 32, -2000, -1, impl.MaxSteps + 1, 1 << 32, 1<<32 + 1, math.MaxInt64}

// collectorByRules has the texts that the steps write.
type collectorByRules struct {
	runs, powers []string
	conjugates   map[string]string // by the two letters that a step replaces
}

func collectorFor(p impl.Presentation) collectorByRules {
	c := collectorByRules{conjugates: map[string]string{}}
	for i, order := range p.Orders {
		by := positiveLetters[i : i+1]
		c.runs, c.powers = append(c.runs, strings.Repeat(by, int(order))), append(c.powers, normalBytes(p.Powers[i]))
		for j := i + 1; j < len(p.Orders); j++ {
			c.conjugates[positiveLetters[j:j+1]+by] = by + normalBytes(p.Conjugates[i][j-i-1])
		}
	}
	return c
}

// stepAt follows the two cases of a step. It reports whether the word is reducible at the index.
func (c collectorByRules) stepAt(text string, at int) (string, bool) {
	if at+1 < len(text) && text[at] > text[at+1] {
		return text[:at] + c.conjugates[text[at:at+2]] + text[at+2:], true
	}
	i := text[at] - 'a'
	if strings.HasPrefix(text[at:], c.runs[i]) {
		return text[:at] + c.powers[i] + text[at+len(c.runs[i]):], true
	}
	return "", false
}

// leastStep returns the word itself and -1 if it is reducible nowhere.
func (c collectorByRules) leastStep(text string) (string, int64) {
	for at := range len(text) {
		if next, isReducible := c.stepAt(text, at); isReducible {
			return next, int64(at)
		}
	}
	return text, -1
}

// collection is the way of a word to its normal word, if the limits MaxSteps and MaxWork are kept on it.
type collection struct {
	normal string
	steps  int64
	isKept bool
}

func collectionByRules(p impl.Presentation, text string) collection {
	c := collectorFor(p)
	for steps := range int64(2001) {
		next, at := c.leastStep(text)
		if at < 0 {
			return collection{text, steps, true}
		}
		if text = next; len(text) > 256 {
			break
		}
	}
	return collection{}
}

func (c collection) isKeptBy(limit int64) bool { return c.isKept && c.steps <= limit }

func exponentsOf(p impl.Presentation, normal string) []int64 {
	var e []int64
	for i := range p.Orders {
		e = append(e, int64(strings.Count(normal, positiveLetters[i:i+1])))
	}
	return e
}

func checkCollectWord(t *testing.T, p impl.Presentation, text string, limit int64, want collection) {
	t.Helper()
	var wantVector []int64
	wantSteps, wantCode := int64(0), int64(impl.ErrLimit)
	if want.isKeptBy(limit) {
		wantVector, wantSteps, wantCode = exponentsOf(p, want.normal), want.steps, impl.ErrNone
	}
	if v, steps, code := impl.CollectWord(p, word(text), limit); !slices.Equal(v, wantVector) || steps != wantSteps || code != wantCode {
		t.Fatalf("CollectWord(%v, %q, %d) = %v, %d, %d, not %v, %d, %d", p, text, limit, v, steps, code, wantVector, wantSteps, wantCode)
	}
}

// checkCollection has a limit that is just enough and one that is a step too few.
func checkCollection(t *testing.T, p impl.Presentation, text string) collection {
	t.Helper()
	want := collectionByRules(p, text)
	for _, limit := range slices.Compact([]int64{0, max(0, want.steps-1), want.steps, impl.MaxSteps}) {
		checkCollectWord(t, p, text, limit, want)
	}
	return want
}

func checkStep(t *testing.T, p impl.Presentation, text string) {
	t.Helper()
	want, wantAt := collectorFor(p).leastStep(text)
	if w, at, code := impl.CollectStep(p, word(text)); bytesOf(w) != want || at != wantAt || code != impl.ErrNone {
		t.Fatalf("CollectStep(%v, %q) = %q, %d, %d, not %q, %d", p, text, bytesOf(w), at, code, want, wantAt)
	}
	if isNormal := impl.IsNormalWord(p, word(text)); isNormal != (wantAt < 0) {
		t.Fatalf("IsNormalWord(%v, %q) is %v", p, text, isNormal)
	}
}

// positiveTexts are the positive words with up to the given number of letters.
func positiveTexts(n int, length int) []string {
	var list []string
	for count := range length + 1 {
		for _, v := range allVectors(int64(n), count) {
			for i := range v {
				v[i]++
			}
			list = append(list, bytesOf(v))
		}
	}
	return list
}

// positiveText has no letters if there are no generators.
func (s *scatter) positiveText(n int, length int) string {
	if n == 0 {
		return ""
	}
	return strings.ToLower(s.text(int64(n), length))
}

// samplePositiveTexts has words with any letters, with one letter only, with another one behind, and with the letters ascending and descending.
func samplePositiveTexts(s *scatter, n int) []string {
	list := []string{""}
	for length := 1; n > 0 && length <= impl.MaxWord; length += 1 + int(s.below(15)) {
		run := strings.Repeat(s.positiveText(n, 1), length)
		letters := []byte(s.positiveText(n, length))
		list = append(list, string(letters), run, run[1:]+s.positiveText(n, 1))
		slices.Sort(letters)
		list = append(list, string(letters))
		slices.Reverse(letters)
		list = append(list, string(letters))
	}
	return append(list, s.positiveText(n, impl.MaxWord), strings.Repeat(s.positiveText(n, 1), impl.MaxWord))
}

// collectedPresentations are consistent ones and others.
func collectedPresentations(t *testing.T, s *scatter) []impl.Presentation {
	t.Helper()
	list := slices.Concat(basePresentations(s), consistentPresentations(t, s))
	for i, p := range samplePresentations(s) {
		if i%61 == 0 {
			list = append(list, p)
		}
	}
	for _, c := range faultTexts {
		list = append(list, mustParse(t, c.text))
	}
	return append(list, mustParse(t, slowText), mustParse(t, wideText))
}

func TestCollectionConstants(t *testing.T) {
	if impl.MaxSteps != 2000 || impl.MaxWork != 256 {
		t.Errorf("the limits are %d and %d", impl.MaxSteps, impl.MaxWork)
	}
}

// The normal words are those of the exponent vectors.
func TestNormalWordsAreThoseOfExponentVectors(t *testing.T) {
	s := &scatter{90}
	for _, p := range collectedPresentations(t, s) {
		normal := map[string]bool{}
		for _, e := range vectorsBelow(p.Orders) {
			normal[normalBytes(e)] = true
			if !impl.IsNormalWord(p, wordByRules(e)) {
				t.Fatalf("IsNormalWord(%v, %v) is false", p, wordByRules(e))
			}
		}
		texts := append(samplePositiveTexts(s, len(p.Orders)), strings.Repeat("a", 65), strings.Repeat("f", 65))
		for _, text := range append(texts, positiveTexts(len(p.Orders), 3)...) {
			if isNormal := impl.IsNormalWord(p, word(text)); isNormal != normal[text] {
				t.Fatalf("IsNormalWord(%v, %q) is %v", p, text, isNormal)
			}
		}
	}
}

// Every word of few letters.
func TestStepsOfShortWords(t *testing.T) {
	for i, p := range smallPresentations() {
		n := len(p.Orders)
		if n == 3 && i%10 > 0 {
			continue
		}
		for _, text := range positiveTexts(n, []int{1, 15, 5, 4}[n]) {
			checkStep(t, p, text)
			checkCollection(t, p, text)
		}
	}
}

func TestStepsOfLongWords(t *testing.T) {
	s := &scatter{91}
	kept, lost := 0, 0
	for _, p := range collectedPresentations(t, s) {
		for _, text := range samplePositiveTexts(s, len(p.Orders)) {
			checkStep(t, p, text)
			if checkCollection(t, p, text).isKept {
				kept++
			} else {
				lost++
			}
		}
	}
	if kept < 1000 || lost < 100 {
		t.Errorf("%d words keep the limits, and %d do not", kept, lost)
	}
}

// After a step there is one less to go to the same vector.
func TestCollectWordCountsTheStepsOfCollectStep(t *testing.T) {
	s := &scatter{92}
	for _, p := range collectedPresentations(t, s) {
		for range 3 {
			w, at := word(s.positiveText(len(p.Orders), 12)), int64(0)
			for range 20 {
				v, steps, code := impl.CollectWord(p, w, impl.MaxSteps)
				if w, at, _ = impl.CollectStep(p, w); at < 0 || code != impl.ErrNone || len(w) > impl.MaxWord {
					break
				}
				if rest, more, code := impl.CollectWord(p, w, impl.MaxSteps); !slices.Equal(rest, v) || more != steps-1 || code != impl.ErrNone {
					t.Fatalf("for %v, the word before %q collects to %v in %d steps, and %q to %v in %d, %d", p, bytesOf(w), v, steps, bytesOf(w), rest, more, code)
				}
			}
		}
	}
}

// anyStep applies a step at any index at which the word is reducible.
func (s *scatter) anyStep(p impl.Presentation, text string) string {
	var list []string
	c := collectorFor(p)
	for at := range len(text) {
		if next, isReducible := c.stepAt(text, at); isReducible {
			list = append(list, next)
		}
	}
	if len(list) == 0 {
		return text
	}
	return list[s.below(int64(len(list)))]
}

// equalTexts are positive words that are equal to a word in the group of a presentation, consistent or not.
func (s *scatter) equalTexts(p impl.Presentation, text string) []string {
	list := []string{text}
	for range 12 {
		if text = s.anyStep(p, text); len(text) <= impl.MaxWord {
			list = append(list, text)
		}
	}
	return list
}

// The promise, for words that are equal by steps at any index, which need not be the least one.
func TestEqualWordsCollectToOneVector(t *testing.T) {
	s := &scatter{93}
	others := 0
	for _, p := range append(consistentPresentations(t, s), mustParse(t, slowText), mustParse(t, wideText)) {
		for length := 0; length <= 64; length += 4 {
			text := s.positiveText(len(p.Orders), length)
			want, _, code := impl.CollectWord(p, word(text), impl.MaxSteps)
			if code != impl.ErrNone {
				continue
			}
			for _, equal := range s.equalTexts(p, text) {
				v, _, code := impl.CollectWord(p, word(equal), impl.MaxSteps)
				if code == impl.ErrLimit && !collectionByRules(p, equal).isKept {
					continue
				}
				if !slices.Equal(v, want) || code != impl.ErrNone {
					t.Fatalf("for %v, %q collects to %v, and %q to %v, %d", p, text, want, equal, v, code)
				}
				if equal != text {
					others++
				}
			}
		}
	}
	if others < 10000 {
		t.Errorf("only %d words are equal to another one", others)
	}
}

// checkElement passes over words that do not keep the limits. For a consistent presentation, only one vector is right.
func checkElement(t *testing.T, p impl.Presentation, g groupTable, text string) {
	t.Helper()
	v, _, code := impl.CollectWord(p, word(text), impl.MaxSteps)
	if code == impl.ErrLimit && !collectionByRules(p, text).isKept {
		return
	}
	if code != impl.ErrNone || !isBounded(v, p.Orders) || !g.isSame(wordByRules(v), word(text)) {
		t.Fatalf("for %v, %q collects to %v, %d", p, text, v, code)
	}
	if g.isFull() && !slices.Equal(v, g.vector(word(text))) {
		t.Fatalf("for %v, %q collects to %v and not to %v", p, text, v, g.vector(word(text)))
	}
}

// The promise, for all words of few letters, by enumerations of the groups.
func TestShortWordsCollectToTheirElements(t *testing.T) {
	for i, p := range smallPresentations() {
		if !impl.IsConsistent(p) && i%5 > 0 {
			continue
		}
		g := groupTableOf(t, p)
		for _, text := range positiveTexts(len(p.Orders), []int{1, 15, 6, 5}[len(p.Orders)]) {
			checkElement(t, p, g, text)
		}
	}
}

// The promise, for words of any number of letters, by enumerations of the groups.
func TestLongWordsCollectToTheirElements(t *testing.T) {
	s := &scatter{94}
	for _, p := range collectedPresentations(t, s) {
		g := groupTableOf(t, p)
		for _, text := range samplePositiveTexts(s, len(p.Orders)) {
			checkElement(t, p, g, text)
		}
	}
}

func TestCollectWordCases(t *testing.T) {
	s4, q8 := "2 3 2 2; b^a=bb; c^a=d; d^a=c; c^b=d; d^b=cd", "2 2 2; a^2=c; b^2=c; b^a=bc"
	for _, c := range []struct {
		text, w string
		limit   int64
		normal  string
		steps   int64
		code    int64
	}{
		{"1", "", 0, "", 0, impl.ErrNone}, {"1", "", 2000, "", 0, impl.ErrNone}, {"2", "", 0, "", 0, impl.ErrNone}, {"2", "a", 0, "a", 0, impl.ErrNone}, {"2", "aa", 0, "", 0, impl.ErrLimit}, {"2", "aa", 1, "", 1, impl.ErrNone}, {"2", "aaa", 1, "a", 1, impl.ErrNone}, {"2", strings.Repeat("a", 64), 32, "", 32, impl.ErrNone}, {"2", strings.Repeat("a", 64), 31, "", 0, impl.ErrLimit}, {"7", strings.Repeat("a", 62), 8, "aaaaaa", 8, impl.ErrNone},
		{"2 3; b^a=bb", "abb", 0, "abb", 0, impl.ErrNone}, {"2 3; b^a=bb", "bab", 10, "a", 2, impl.ErrNone}, {"2 3; b^a=bb", "bab", 2, "a", 2, impl.ErrNone}, {"2 3; b^a=bb", "bab", 1, "", 0, impl.ErrLimit}, {"2 3; b^a=bb", "bab", 0, "", 0, impl.ErrLimit}, {"2 3; b^a=bb", "ba", 1, "abb", 1, impl.ErrNone}, {"2 3; b^a=bb", "baba", 2000, "", 3, impl.ErrNone}, {"2 3; b^a=bb", "bbb", 1, "", 1, impl.ErrNone},
		{"2 2 3; a^2=b; b^2=c", "aaaa", 2000, "c", 5, impl.ErrNone}, {"2 2 3; a^2=b; b^2=c", strings.Repeat("a", 12), 2000, "", 28, impl.ErrNone}, {"2 3", "bbaab", 2000, "", 6, impl.ErrNone}, {"3 2; a^3=b", "aaaa", 2, "ab", 2, impl.ErrNone},
		{q8, "ba", 1, "abc", 1, impl.ErrNone}, {q8, "ab", 0, "ab", 0, impl.ErrNone}, {q8, "baab", 2000, "", 9, impl.ErrNone}, {s4, "dcba", 2000, "abbd", 7, impl.ErrNone}, {s4, "dcb", 2000, "bc", 5, impl.ErrNone},
		{"2 5; b^a=bb", "baa", 2000, "bbbb", 4, impl.ErrNone}, {"2 2; b^a=1", "ba", 1, "a", 1, impl.ErrNone}, {"2 3; a^2=b; b^a=bb", "aaa", 1, "", 0, impl.ErrLimit}, {"2 3; a^2=b; b^a=bb", "aaa", 2, "abb", 2, impl.ErrNone}, {"2 2 2; b^a=1; c^a=1; c^b=1", strings.Repeat("cba", 21), 2000, "a", 52, impl.ErrNone},
		{slowText, slowWord, 2000, "abc", 2000, impl.ErrNone}, {slowText, slowWord, 1999, "", 0, impl.ErrLimit}, {slowText, slowWord + "b", 2000, "", 0, impl.ErrLimit},
		{wideText, wideWord, 2000, "abbbbcddddd", 751, impl.ErrNone}, {wideText, wideWord, 751, "abbbbcddddd", 751, impl.ErrNone}, {wideText, wideWord, 750, "", 0, impl.ErrLimit}, {wideText, wideWord + "d", 2000, "", 0, impl.ErrLimit}, {wideText, wideWord + "d", 15, "", 0, impl.ErrLimit}, {wideText, wideWord[1:], 2000, "abccccd", 711, impl.ErrNone},
	} {
		p := mustParse(t, c.text)
		want := exponentsOf(p, c.normal)
		if c.code != impl.ErrNone {
			want = nil
		}
		if v, steps, code := impl.CollectWord(p, word(c.w), c.limit); !slices.Equal(v, want) || steps != c.steps || code != c.code {
			t.Errorf("for %q, CollectWord of %q with the limit %d = %v, %d, %d, not %v, %d, %d", c.text, c.w, c.limit, v, steps, code, want, c.steps, c.code)
		}
	}
}

// The limit of MaxWork letters, for a word that would be normal before the limit of MaxSteps steps.
func TestWordsBeyondMaxWork(t *testing.T) {
	p := mustParse(t, wideText)
	collector := collectorFor(p)
	for _, c := range []struct {
		text string
		most int
	}{{wideWord, 256}, {wideWord + "d", 257}, {wideWord + "b", 257}, {"ccccccdddddda" + strings.Repeat("b", 51), 256}, {"bccccccdddddda" + strings.Repeat("c", 40), 256}, {"bccccccdddddda" + strings.Repeat("c", 41), 257}} {
		text, most := c.text, 0
		for at := int64(0); at >= 0; text, at = collector.leastStep(text) {
			most = max(most, len(text))
		}
		v, steps, code := impl.CollectWord(p, word(c.text), impl.MaxSteps)
		switch {
		case most != c.most:
			t.Errorf("%q has up to %d letters", c.text, most)
		case most <= 256 && (!slices.Equal(v, exponentsOf(p, text)) || steps > 2000 || code != impl.ErrNone):
			t.Errorf("CollectWord of %q = %v, %d, %d, not %q", c.text, v, steps, code, text)
		case most > 256 && (len(v) != 0 || steps != 0 || code != impl.ErrLimit):
			t.Errorf("CollectWord of %q = %v, %d, %d", c.text, v, steps, code)
		}
	}
}

func TestCollectStepCases(t *testing.T) {
	for _, c := range []struct {
		text, w, next string
		at            int64
	}{
		{"1", "", "", -1}, {"2", "", "", -1}, {"2", "a", "a", -1}, {"2", "aa", "", 0}, {"2", "aaa", "a", 0}, {"3", "aa", "aa", -1}, {"3", "aaaa", "a", 0}, {"3 2; a^3=b", "aaaa", "ba", 0}, {"3 2; a^3=b", "ba", "ab", 0},
		{"2 3; b^a=bb", "bab", "abbb", 0}, {"2 3; b^a=bb", "abbb", "a", 1}, {"2 3; b^a=bb", "ab", "ab", -1}, {"2 3; b^a=bb", "abb", "abb", -1}, {"2 3; b^a=bb", "bbba", "a", 0}, {"2 3; b^a=bb", "bba", "babb", 1}, {"2 3; b^a=bb", "baa", "abba", 0}, {"2 3; b^a=1", "bba", "ba", 1},
		{"2 3 2 2; b^a=bb; c^a=d; d^a=c; c^b=d; d^b=cd", "dcba", "cdba", 0}, {"2 3 2 2; b^a=bb; c^a=d; d^a=c; c^b=d; d^b=cd", "abcdb", "abcbcd", 3}, {"2 2 2; c^b=1", "abcb", "abb", 2},
		{wideText, strings.Repeat("b", 6) + "a" + strings.Repeat("d", 57), "bbbbbabbbccccdddd" + strings.Repeat("d", 57), 5}, {wideText, strings.Repeat("b", 4) + strings.Repeat("d", 59) + "d", "bbbb" + strings.Repeat("d", 53), 4},
	} {
		if w, at, code := impl.CollectStep(mustParse(t, c.text), word(c.w)); bytesOf(w) != c.next || at != c.at || code != impl.ErrNone {
			t.Errorf("for %q, CollectStep of %q = %q, %d, %d", c.text, c.w, bytesOf(w), at, code)
		}
		if isNormal := impl.IsNormalWord(mustParse(t, c.text), word(c.w)); isNormal != (c.at < 0) {
			t.Errorf("for %q, IsNormalWord of %q is %v", c.text, c.w, isNormal)
		}
	}
}

func checkCollectProduct(t *testing.T, p impl.Presentation, x []int64, y []int64) {
	t.Helper()
	want := collectionByRules(p, normalBytes(x)+normalBytes(y))
	for _, limit := range slices.Compact([]int64{0, max(0, want.steps-1), want.steps, impl.MaxSteps}) {
		var wantVector []int64
		wantCode := int64(impl.ErrLimit)
		if want.isKeptBy(limit) {
			wantVector, wantCode = exponentsOf(p, want.normal), impl.ErrNone
		}
		if v, code := impl.CollectProduct(p, x, y, limit); !slices.Equal(v, wantVector) || code != wantCode {
			t.Fatalf("CollectProduct(%v, %v, %v, %d) = %v, %d, not %v, %d", p, x, y, limit, v, code, wantVector, wantCode)
		}
	}
}

func TestCollectProduct(t *testing.T) {
	s := &scatter{95}
	for _, p := range smallPresentations() {
		if len(p.Orders) < 2 || s.below(12) == 0 {
			for _, pair := range pairsOf(s, p.Orders) {
				checkCollectProduct(t, p, pair[0], pair[1])
			}
		}
	}
	for _, p := range collectedPresentations(t, s) {
		for k, pair := range pairsOf(s, p.Orders) {
			if k%16 == 0 {
				checkCollectProduct(t, p, pair[0], pair[1])
			}
		}
	}
}

// The promise, for products in the groups of consistent presentations.
func TestCollectedProductsAreThoseOfTheGroup(t *testing.T) {
	s := &scatter{96}
	for _, p := range consistentPresentations(t, s) {
		g := groupTableOf(t, p)
		for _, pair := range pairsOf(s, p.Orders) {
			x, y := pair[0], pair[1]
			v, code := impl.CollectProduct(p, x, y, impl.MaxSteps)
			if want := g.vector(slices.Concat(wordByRules(x), wordByRules(y))); code == impl.ErrNone && !slices.Equal(v, want) {
				t.Fatalf("CollectProduct(%v, %v, %v) = %v, not %v", p, x, y, v, want)
			}
			if code != impl.ErrNone && collectionByRules(p, normalBytes(x)+normalBytes(y)).isKept {
				t.Fatalf("CollectProduct(%v, %v, %v) has the code %d", p, x, y, code)
			}
		}
	}
}

func TestCollectProductCases(t *testing.T) {
	for _, c := range []struct {
		text    string
		a, b    []int64
		limit   int64
		product []int64
		code    int64
	}{
		{"1", nil, nil, 0, nil, impl.ErrNone}, {"2", []int64{1}, []int64{0}, 0, []int64{1}, impl.ErrNone}, {"2", []int64{1}, []int64{1}, 0, nil, impl.ErrLimit}, {"2", []int64{1}, []int64{1}, 1, []int64{0}, impl.ErrNone}, {"2 3; b^a=bb", []int64{0, 1}, []int64{1, 1}, 10, []int64{1, 0}, impl.ErrNone}, {"2 3; b^a=bb", []int64{0, 1}, []int64{1, 1}, 1, nil, impl.ErrLimit}, {"2 3; b^a=bb", []int64{1, 0}, []int64{0, 2}, 0, []int64{1, 2}, impl.ErrNone}, {"2 3; b^a=bb", []int64{1, 1}, []int64{1, 1}, 2000, []int64{0, 0}, impl.ErrNone}, {"2 2 2; a^2=c; b^2=c; b^a=bc", []int64{0, 1, 0}, []int64{1, 0, 0}, 1, []int64{1, 1, 1}, impl.ErrNone},
		{wideText, []int64{0, 6, 6, 6}, []int64{1, 0, 0, 0}, 2000, nil, impl.ErrLimit}, {wideText, []int64{0, 4, 6, 6}, []int64{1, 0, 0, 6}, 2000, []int64{1, 0, 5, 4}, impl.ErrNone}, {wideText, []int64{1, 0, 0, 0}, []int64{0, 6, 6, 6}, 0, []int64{1, 6, 6, 6}, impl.ErrNone},
	} {
		if v, code := impl.CollectProduct(mustParse(t, c.text), c.a, c.b, c.limit); !slices.Equal(v, c.product) || code != c.code {
			t.Errorf("for %q, CollectProduct of %v and %v with the limit %d = %v, %d", c.text, c.a, c.b, c.limit, v, code)
		}
	}
}

// doublyReducible is a positive word that is reducible at the index 0 and at another one.
type doublyReducible struct {
	text string
	at   int
}

func doublyReducibles(orders []int64) []doublyReducible {
	var list []doublyReducible
	n, letter := len(orders), func(i int) string { return positiveLetters[i : i+1] }
	for i := range n {
		for j := i + 1; j < n; j++ {
			for k := j + 1; k < n; k++ {
				list = append(list, doublyReducible{letter(k) + letter(j) + letter(i), 1})
			}
		}
	}
	for i := range n {
		for j := i + 1; j < n; j++ {
			list = append(list, doublyReducible{strings.Repeat(letter(j), int(orders[j])) + letter(i), int(orders[j]) - 1})
		}
	}
	for i := range n {
		for j := i + 1; j < n; j++ {
			list = append(list, doublyReducible{letter(j) + strings.Repeat(letter(i), int(orders[i])), 1})
		}
	}
	for i := range n {
		list = append(list, doublyReducible{strings.Repeat(letter(i), int(orders[i])+1), 1})
	}
	return list
}

// criticalText is a critical pair as texts.
type criticalText struct{ word, left, right string }

func criticalTexts(t *testing.T, p impl.Presentation) []criticalText {
	t.Helper()
	var list []criticalText
	c := collectorFor(p)
	for _, d := range doublyReducibles(p.Orders) {
		left, isFirst := c.stepAt(d.text, 0)
		right, isSecond := c.stepAt(d.text, d.at)
		if !isFirst || !isSecond {
			t.Fatalf("for %v, %q is not reducible at 0 and at %d", p, d.text, d.at)
		}
		list = append(list, criticalText{d.text, left, right})
	}
	return list
}

func TestCriticalPairs(t *testing.T) {
	s := &scatter{97}
	for _, p := range slices.Concat(smallPresentations(), samplePresentations(s), collectedPresentations(t, s)) {
		pairs, code := impl.CriticalPairs(p)
		want, n := criticalTexts(t, p), len(p.Orders)
		if len(pairs) != n*(n-1)*(n-2)/6+n*(n-1)+n || len(pairs) != len(want) || code != impl.ErrNone {
			t.Fatalf("CriticalPairs(%v) = %v, %d", p, pairs, code)
		}
		for k, pair := range pairs {
			if got := (criticalText{bytesOf(pair.Word), bytesOf(pair.Left), bytesOf(pair.Right)}); got != want[k] {
				t.Fatalf("CriticalPairs(%v) has %v at %d, not %v", p, got, k, want[k])
			}
		}
	}
}

func TestCriticalPairCases(t *testing.T) {
	for _, c := range []struct {
		text  string
		pairs []criticalText
	}{
		{"1", nil},
		{"2", []criticalText{{"aaa", "a", "a"}}},
		{"7", []criticalText{{"aaaaaaaa", "a", "a"}}},
		{"2 3; b^a=bb", []criticalText{{"bbba", "a", "bbabb"}, {"baa", "abba", "b"}, {"aaa", "a", "a"}, {"bbbb", "b", "b"}}},
		{"2 3; a^2=bb; b^a=1", []criticalText{{"bbba", "a", "bba"}, {"baa", "aa", "bbb"}, {"aaa", "bba", "abb"}, {"bbbb", "b", "b"}}},
		{"2 2 2; a^2=c; b^2=c; b^a=bc", []criticalText{
			{"cba", "bca", "cabc"},
			{"bba", "ca", "babc"}, {"cca", "a", "cac"}, {"ccb", "b", "cbc"},
			{"baa", "abca", "bc"}, {"caa", "aca", "cc"}, {"cbb", "bcb", "cc"},
			{"aaa", "ca", "ac"}, {"bbb", "cb", "bc"}, {"ccc", "c", "c"},
		}},
		{"3 2 2; b^a=c; c^a=bc", []criticalText{
			{"cba", "bca", "cac"},
			{"bba", "a", "bac"}, {"cca", "a", "cabc"}, {"ccb", "b", "cbc"},
			{"baaa", "acaa", "b"}, {"caaa", "abcaa", "c"}, {"cbb", "bcb", "c"},
			{"aaaa", "a", "a"}, {"bbb", "b", "b"}, {"ccc", "c", "c"},
		}},
	} {
		pairs, code := impl.CriticalPairs(mustParse(t, c.text))
		var got []criticalText
		for _, pair := range pairs {
			got = append(got, criticalText{bytesOf(pair.Word), bytesOf(pair.Left), bytesOf(pair.Right)})
		}
		if !slices.Equal(got, c.pairs) || code != impl.ErrNone {
			t.Errorf("for %q, CriticalPairs = %v, %d", c.text, got, code)
		}
	}
}

// pairCollections ends behind the first pair that differs or does not keep the limits: no limit makes a later one matter.
func pairCollections(t *testing.T, p impl.Presentation) [][2]collection {
	t.Helper()
	var list [][2]collection
	for _, pair := range criticalTexts(t, p) {
		left, right := collectionByRules(p, pair.left), collectionByRules(p, pair.right)
		if list = append(list, [2]collection{left, right}); left.normal != right.normal || !left.isKept || !right.isKept {
			break
		}
	}
	return list
}

func joinByRules(list [][2]collection, limit int64) (int64, int64) {
	for k, pair := range list {
		if !pair[0].isKeptBy(limit) || !pair[1].isKeptBy(limit) {
			return 0, impl.ErrLimit
		}
		if pair[0].normal != pair[1].normal {
			return int64(k), impl.ErrNone
		}
	}
	return -1, impl.ErrNone
}

// checkJoin has, for each word of a pair, a limit that is just enough and one that is a step too few.
func checkJoin(t *testing.T, p impl.Presentation) {
	t.Helper()
	list := pairCollections(t, p)
	limits := []int64{0, impl.MaxSteps}
	for _, pair := range list {
		for _, c := range pair {
			limits = append(limits, max(0, c.steps-1), c.steps)
		}
	}
	slices.Sort(limits)
	for _, limit := range slices.Compact(limits) {
		want, wantCode := joinByRules(list, limit)
		if k, code := impl.CriticalPairsJoin(p, limit); k != want || code != wantCode {
			t.Fatalf("CriticalPairsJoin(%v, %d) = %d, %d, not %d, %d", p, limit, k, code, want, wantCode)
		}
	}
}

// The first part of the guarantee of the chapter, where MaxSteps steps suffice.
func TestPairsJoinExactlyIfThePresentationIsConsistent(t *testing.T) {
	s := &scatter{98}
	list := slices.Concat(smallPresentations(), collectedPresentations(t, s))
	for i, p := range changedPresentations(t, s) {
		if len(p.Orders) < 3 || i%20 == 0 {
			list = append(list, p)
		}
	}
	joining, others, lost := 0, 0, 0
	for _, p := range list {
		checkJoin(t, p)
		k, code := impl.CriticalPairsJoin(p, impl.MaxSteps)
		if isConsistent := impl.IsConsistent(p); code == impl.ErrNone && isConsistent != (k < 0) {
			t.Fatalf("CriticalPairsJoin(%v) = %d, and IsConsistent is %v", p, k, isConsistent)
		}
		switch {
		case code != impl.ErrNone:
			lost++
		case k < 0:
			joining++
		default:
			others++
		}
	}
	if joining < 500 || others < 1000 || lost == 0 {
		t.Errorf("the pairs of %d presentations join, those of %d do not, and %d do not keep the limits", joining, others, lost)
	}
}

func TestCriticalPairsJoinCases(t *testing.T) {
	for _, c := range []struct {
		text  string
		limit int64
		k     int64
		code  int64
	}{
		{"1", 0, -1, impl.ErrNone}, {"1", 2000, -1, impl.ErrNone}, {"2", 0, -1, impl.ErrNone}, {"7", 0, -1, impl.ErrNone}, {"2 3; b^a=bb", 100, -1, impl.ErrNone}, {"2 3; b^a=bb", 0, 0, impl.ErrLimit}, {"2 3; b^a=bb", 4, -1, impl.ErrNone}, {"2 3; b^a=bb", 3, 0, impl.ErrLimit}, {"2 5; b^a=bb", 100, 1, impl.ErrNone}, {"2 5; b^a=bb", 2000, 1, impl.ErrNone}, {"2 5; b^a=bb", 0, 0, impl.ErrLimit},
		{"2 2; b^a=1", 2000, 1, impl.ErrNone}, {"2 2; b^a=1", 1, 1, impl.ErrNone}, {"2 2; b^a=1", 0, 0, impl.ErrLimit}, {"2 3; a^2=b; b^a=bb", 2000, 2, impl.ErrNone}, {"2 2 2; c^a=bc; c^b=1", 2000, 0, impl.ErrNone}, {"3 2; a^3=b", 4, -1, impl.ErrNone}, {"3 2; a^3=b", 3, 0, impl.ErrLimit}, {"3 2 2; b^2=c; b^a=c", 2000, 1, impl.ErrNone}, {"2 2 2; a^2=b; b^a=c; c^a=b", 2000, 7, impl.ErrNone},
		// One pair has too many letters on the way, behind all the others, which join.
		{"2 7 7 7; a^2=bbbbbbccccccdddddd; b^a=bbbccccdddd; c^a=bbbbbbcccccdddddd; d^a=bbbbbbccccccddddd", 2000, 0, impl.ErrLimit},
	} {
		if k, code := impl.CriticalPairsJoin(mustParse(t, c.text), c.limit); k != c.k || code != c.code {
			t.Errorf("for %q, CriticalPairsJoin with the limit %d = %d, %d, not %d, %d", c.text, c.limit, k, code, c.k, c.code)
		}
	}
}

func checkWordCodes(t *testing.T, p impl.Presentation, w []int64, limit int64, want int64) {
	t.Helper()
	if v, steps, code := impl.CollectWord(p, w, limit); len(v) != 0 || steps != 0 || code != want {
		t.Fatalf("CollectWord(%v, %v, %d) = %v, %d, %d, not %d", p, w, limit, v, steps, code, want)
	}
	if next, at, code := impl.CollectStep(p, w); want == impl.ErrInvalid && (len(next) != 0 || at != 0 || code != want || impl.IsNormalWord(p, w)) {
		t.Fatalf("CollectStep(%v, %v) = %v, %d, %d, and IsNormalWord is %v", p, w, next, at, code, impl.IsNormalWord(p, w))
	}
}

func checkProductCode(t *testing.T, p impl.Presentation, a []int64, b []int64, limit int64, want int64) {
	t.Helper()
	if v, code := impl.CollectProduct(p, a, b, limit); len(v) != 0 || code != want {
		t.Fatalf("CollectProduct(%v, %v, %v, %d) = %v, %d, not %d", p, a, b, limit, v, code, want)
	}
}

func checkPairsCode(t *testing.T, p impl.Presentation, limit int64, want int64) {
	t.Helper()
	if k, code := impl.CriticalPairsJoin(p, limit); k != 0 || code != want {
		t.Fatalf("CriticalPairsJoin(%v, %d) = %d, %d, not %d", p, limit, k, code, want)
	}
}

func TestInvalidPresentationsAreNotCollected(t *testing.T) {
	for _, p := range invalidPresentations(&scatter{99}) {
		if pairs, code := impl.CriticalPairs(p); len(pairs) != 0 || code != impl.ErrInvalid {
			t.Fatalf("CriticalPairs(%v) = %v, %d", p, pairs, code)
		}
		zero := make([]int64, len(p.Orders))
		for _, limit := range []int64{-1, 0, impl.MaxSteps, impl.MaxSteps + 1} {
			checkPairsCode(t, p, limit, impl.ErrInvalid)
			checkProductCode(t, p, zero, zero, limit, impl.ErrInvalid)
			for _, w := range [][]int64{nil, {1}, {2, 1}} {
				checkWordCodes(t, p, w, limit, impl.ErrInvalid)
				checkProductCode(t, p, w, w, limit, impl.ErrInvalid)
			}
		}
	}
}

// notPositive are words of a free group, if at all, but not positive ones.
func notPositive(n int) [][]int64 {
	list := append(invalidWords(int64(n)), times(65, 1), times(100000, 1), []int64{math.MinInt64})
	for k := int64(1); k <= int64(n); k++ {
		list = append(list, []int64{-k}, []int64{k, -k}, []int64{-1, k}, []int64{1, k, -k, 1}, append(times(63, 1), -k), append(times(64, k), 1))
	}
	return list
}

// A word that is not positive is an error ahead of a limit out of its range.
func TestWordsThatAreNotPositive(t *testing.T) {
	s := &scatter{100}
	for _, p := range append(basePresentations(s), mustParse(t, slowText)) {
		for _, w := range notPositive(len(p.Orders)) {
			for _, limit := range append(slices.Clone(outsideLimits), 0, 1, impl.MaxSteps) {
				checkWordCodes(t, p, w, limit, impl.ErrInvalid)
			}
		}
	}
}

// otherVectors are vectors like e that are no exponent vectors of p.
func otherVectors(p impl.Presentation, e []int64) [][]int64 {
	list := [][]int64{append(slices.Clone(e), 0), append(slices.Clone(e), 1), make([]int64, 1000)}
	for i, order := range p.Orders {
		list = append(list, slices.Delete(slices.Clone(e), i, i+1))
		for _, entry := range []int64{math.MinInt64, -1, order, order + 1, math.MaxInt64} {
			v := slices.Clone(e)
			v[i] = entry
			list = append(list, v)
		}
	}
	return list
}

// A vector that is none of the presentation is an error ahead of a limit out of its range.
func TestProductsOfOtherVectors(t *testing.T) {
	s := &scatter{101}
	for _, p := range append(basePresentations(s), mustParse(t, wideText)) {
		zero, last := make([]int64, len(p.Orders)), make([]int64, len(p.Orders))
		for i, order := range p.Orders {
			last[i] = order - 1
		}
		for _, e := range [][]int64{zero, last} {
			for _, bad := range otherVectors(p, e) {
				for _, limit := range append(slices.Clone(outsideLimits), 0, impl.MaxSteps) {
					checkProductCode(t, p, bad, e, limit, impl.ErrInvalid)
					checkProductCode(t, p, e, bad, limit, impl.ErrInvalid)
					checkProductCode(t, p, bad, bad, limit, impl.ErrInvalid)
				}
			}
		}
	}
}

// A limit out of its range is an error for every word, a normal one too, and ahead of a collection beyond the limits.
func TestLimitsOutside(t *testing.T) {
	s := &scatter{102}
	for _, p := range collectedPresentations(t, s) {
		n := len(p.Orders)
		zero, last := make([]int64, n), make([]int64, n)
		for i, order := range p.Orders {
			last[i] = order - 1
		}
		for _, limit := range outsideLimits {
			checkPairsCode(t, p, limit, impl.ErrRange)
			for _, e := range [][]int64{zero, last} {
				checkProductCode(t, p, e, zero, limit, impl.ErrRange)
				checkProductCode(t, p, e, last, limit, impl.ErrRange)
				checkWordCodes(t, p, wordByRules(e), limit, impl.ErrRange)
			}
			checkWordCodes(t, p, word(s.positiveText(n, 64)), limit, impl.ErrRange)
		}
	}
}

func claimPairs(owned map[any]bool, pairs []impl.CriticalPair) bool {
	free := claim(owned, pairs)
	for _, pair := range pairs {
		free = claim(owned, pair.Word) && claim(owned, pair.Left) && claim(owned, pair.Right) && free
	}
	return free
}

// collectionCalls have all functions of the chapter, each with the claim to the memory of its result.
func collectionCalls(p impl.Presentation, w []int64, a []int64, b []int64) map[string]func(owned map[any]bool) (string, bool) {
	return map[string]func(map[any]bool) (string, bool){
		"CollectStep": func(owned map[any]bool) (string, bool) {
			next, at, code := impl.CollectStep(p, w)
			return fmt.Sprint(next, at, code), claim(owned, next)
		},
		"CollectWord": func(owned map[any]bool) (string, bool) {
			v, steps, code := impl.CollectWord(p, w, impl.MaxSteps)
			return fmt.Sprint(v, steps, code), claim(owned, v)
		},
		"CollectProduct": func(owned map[any]bool) (string, bool) {
			v, code := impl.CollectProduct(p, a, b, impl.MaxSteps)
			return fmt.Sprint(v, code), claim(owned, v)
		},
		"a square": func(owned map[any]bool) (string, bool) {
			v, code := impl.CollectProduct(p, a, a, impl.MaxSteps)
			return fmt.Sprint(v, code), claim(owned, v)
		},
		"CriticalPairs": func(owned map[any]bool) (string, bool) {
			pairs, code := impl.CriticalPairs(p)
			return fmt.Sprint(pairs, code), claimPairs(owned, pairs)
		},
		"the tests": func(map[any]bool) (string, bool) {
			k, code := impl.CriticalPairsJoin(p, 100)
			return fmt.Sprint(impl.IsNormalWord(p, w), k, code), true
		},
	}
}

func checkCollectionMemory(t *testing.T, p impl.Presentation, w []int64, a []int64, b []int64) {
	t.Helper()
	p, w, a, b = roomyPresentation(p), roomy(w), roomy(a), roomy(b)
	claimArguments := func(owned map[any]bool) {
		claimPresentation(owned, p)
		for _, list := range [][]int64{w, a, b} {
			claim(owned, list)
		}
	}
	contents := func() string { return fullContent(p) + fmt.Sprint(fullVector(w), fullVector(a), fullVector(b)) }
	checkCalls(t, collectionCalls(p, w, a, b), claimArguments, contents)
}

func TestCollectionArgumentsStayAndResultsAreNew(t *testing.T) {
	s := &scatter{103}
	for _, p := range collectedPresentations(t, s) {
		n := len(p.Orders)
		for _, pair := range pairsOf(s, p.Orders)[:1] {
			a, b := pair[0], pair[1]
			checkCollectionMemory(t, p, wordByRules(a), a, b)
			checkCollectionMemory(t, p, word(s.positiveText(n, 20)), a, b)
			checkCollectionMemory(t, p, []int64{-1, int64(n) + 1}, b, []int64{-1})
		}
	}
	for i, p := range invalidPresentations(s) {
		if i%20 == 0 && len(p.Orders) < 10 {
			checkCollectionMemory(t, p, []int64{2, 1}, make([]int64, len(p.Orders)), nil)
		}
	}
}
