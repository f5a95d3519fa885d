package tests

import (
	"cmp"
	"fmt"
	"math"
	"slices"
	"strings"
	"testing"

	"loop.example/g01076/impl"
)

// In these tests a word is computed with as the bytes of its text, and the word without letters is "".
const (
	positiveLetters = "abcdef"
	negativeLetters = "ABCDEF"
)

var outsideGens = []int64{math.MinInt64, math.MinInt64 + 1, -64, -6, -1, 7, 8, 64, math.MaxInt64}

func word(text string) []int64 {
	var w []int64
	for i := range len(text) {
		w = append(w, int64(strings.IndexByte(positiveLetters, text[i])-strings.IndexByte(negativeLetters, text[i])))
	}
	return w
}

func bytesOf(w []int64) string {
	var text []byte
	for _, letter := range w {
		text = append(text, " abcdefFEDCBA"[(letter+13)%13])
	}
	return string(text)
}

func swapCase(b rune) rune { return b ^ 'a' ^ 'A' }

func inverseBytes(text string) string {
	letters := []byte(strings.Map(swapCase, text))
	slices.Reverse(letters)
	return string(letters)
}

var cancelPairs = strings.NewReplacer("aA", "", "bB", "", "cC", "", "dD", "", "eE", "", "fF", "", "Aa", "", "Bb", "", "Cc", "", "Dd", "", "Ee", "", "Ff", "")

// cancelled removes all pairs that stand somewhere, and then those that have come together.
func cancelled(text string) string {
	for {
		shorter := cancelPairs.Replace(text)
		if shorter == text {
			return text
		}
		text = shorter
	}
}

// limitedBytes is the result of the functions that return a reduced form of any letters.
func limitedBytes(text string) (string, int64) {
	if text = cancelled(text); len(text) > impl.MaxWord {
		return "", impl.ErrLimit
	}
	return text, impl.ErrNone
}

func checkWord(t *testing.T, name string, w []int64, code int64, want string, wantCode int64) {
	t.Helper()
	if !slices.Equal(w, word(want)) || code != wantCode {
		t.Fatalf("%s = %v, %d, not %v, %d", name, w, code, word(want), wantCode)
	}
}

// allTexts are the words over k generators with up to the given number of letters.
func allTexts(k int, length int) []string {
	list, last := []string{""}, []string{""}
	for range length {
		var next []string
		for _, text := range last {
			for _, letter := range positiveLetters[:k] + negativeLetters[:k] {
				next = append(next, text+string(letter))
			}
		}
		list, last = append(list, next...), next
	}
	return list
}

func reducedTexts(k int, length int) []string {
	return slices.DeleteFunc(allTexts(k, length), func(text string) bool { return text != cancelled(text) })
}

func (s *scatter) text(k int64, length int) string {
	var text []byte
	for range length {
		text = append(text, (positiveLetters[:k] + negativeLetters[:k])[s.below(2*k)])
	}
	return string(text)
}

// padded puts pairs that cancel anywhere into a text.
func (s *scatter) padded(k int64, text string, pairs int) string {
	for range pairs {
		place, letter := s.below(int64(len(text))+1), s.text(k, 1)
		text = text[:place] + letter + inverseBytes(letter) + text[place:]
	}
	return text
}

// sampleTexts has words of all lengths, and such with short reduced forms and with short powers.
func sampleTexts(s *scatter, k int64) []string {
	list := []string{""}
	for length := 1; k > 0 && length <= impl.MaxWord; length++ {
		half := s.text(k, length/2)
		list = append(list, s.text(k, length), strings.Repeat(s.text(k, 1), length), s.padded(k, s.text(k, length%2), length/2), s.padded(k, s.text(k, length-length/3*2), length/3))
		list = append(list, half+s.text(k, length-2*len(half))+inverseBytes(half), s.text(k, 1+length%5))
	}
	return list
}

// invalidWords are no words over k generators.
func invalidWords(k int64) [][]int64 {
	list := [][]int64{times(65, 0), times(65, 1), times(200, 9), append(times(32, 1), times(33, -1)...)}
	for _, letter := range []int64{math.MinInt64, math.MinInt64 + 1, -7, -k - 1, 0, k + 1, 7, 97, math.MaxInt64} {
		list = append(list, []int64{letter}, []int64{letter, -letter}, append(times(63, k), letter))
		for i := range 3 {
			w := []int64{k, -k, k}
			w[i] = letter
			list = append(list, w)
		}
	}
	return list
}

func TestIsWord(t *testing.T) {
	if impl.MaxGens != 6 || impl.MaxWord != 64 {
		t.Errorf("the limits are %d and %d", impl.MaxGens, impl.MaxWord)
	}
	for k := int64(-2); k <= 9; k++ {
		for length := range 4 {
			for _, w := range allVectors(19, length) {
				valid := 0 <= k && k <= 6
				for i := range w {
					w[i] -= 9
					valid = valid && w[i] != 0 && w[i] <= k && -w[i] <= k
				}
				if impl.IsWord(k, w) != valid {
					t.Fatalf("IsWord(%d, %v) is %v", k, w, !valid)
				}
				if reduced := valid && bytesOf(w) == cancelled(bytesOf(w)); impl.IsReducedWord(k, w) != reduced {
					t.Fatalf("IsReducedWord(%d, %v) is %v", k, w, !reduced)
				}
			}
		}
	}
}

func TestLongWords(t *testing.T) {
	for k := int64(1); k <= impl.MaxGens; k++ {
		for length := 60; length <= 70; length++ {
			want := length <= impl.MaxWord
			for _, letter := range []int64{1, -1, k, -k} {
				if w := times(length, letter); impl.IsWord(k, w) != want || impl.IsReducedWord(k, w) != want {
					t.Errorf("%d letters %d: IsWord is %v and IsReducedWord is %v", length, letter, impl.IsWord(k, w), impl.IsReducedWord(k, w))
				}
			}
		}
	}
	if impl.IsWord(6, times(100000, 1)) || impl.IsReducedWord(6, times(100000, 1)) {
		t.Errorf("100000 letters are a word")
	}
}

func TestInvalidWordsAreNoWords(t *testing.T) {
	for _, k := range append(slices.Clone(outsideGens), 0, 1, 2, 3, 4, 5, 6) {
		for _, w := range invalidWords(k) {
			if impl.IsWord(k, w) || impl.IsReducedWord(k, w) {
				t.Errorf("over %d generators, IsWord of %v is %v and IsReducedWord is %v", k, w, impl.IsWord(k, w), impl.IsReducedWord(k, w))
			}
		}
	}
	for _, k := range outsideGens {
		if impl.IsWord(k, nil) || impl.IsReducedWord(k, nil) || impl.IsWord(k, []int64{1}) || impl.IsReducedWord(k, []int64{1}) {
			t.Errorf("there is a word over %d generators", k)
		}
	}
}

// removeAnyPair removes two letters that add up to 0, if there are any: one such pair of all.
func (s *scatter) removeAnyPair(w []int64) ([]int64, bool) {
	var places []int
	for i := 1; i < len(w); i++ {
		if w[i-1]+w[i] == 0 {
			places = append(places, i)
		}
	}
	if len(places) == 0 {
		return w, false
	}
	i := places[s.below(int64(len(places)))]
	return slices.Concat(w[:i-1], w[i+1:]), true
}

func checkReduction(t *testing.T, s *scatter, k int64, text string) {
	t.Helper()
	w, code := impl.ReduceWord(k, word(text))
	checkWord(t, fmt.Sprint("ReduceWord of ", text), w, code, cancelled(text), impl.ErrNone)
	for range 2 {
		rest, more := word(text), true
		for more {
			rest, more = s.removeAnyPair(rest)
		}
		if !slices.Equal(rest, w) {
			t.Fatalf("%s can be reduced to %v and to %v", text, rest, w)
		}
	}
	if !impl.IsReducedWord(k, w) || impl.IsReducedWord(k, word(text)) != (len(w) == len(text)) {
		t.Fatalf("IsReducedWord of %s is %v, and of its reduced form %v", text, impl.IsReducedWord(k, word(text)), impl.IsReducedWord(k, w))
	}
}

func TestEveryOrderOfRemovalsGivesTheReducedForm(t *testing.T) {
	s := &scatter{61}
	for _, text := range slices.Concat(allTexts(1, 8), allTexts(2, 6), allTexts(3, 4)) {
		checkReduction(t, s, 3, text)
	}
	for k := range int64(impl.MaxGens + 1) {
		for _, text := range sampleTexts(s, k) {
			checkReduction(t, s, k, text)
		}
	}
}

func mustMultiply(t *testing.T, k int64, a []int64, b []int64) []int64 {
	t.Helper()
	w, code := impl.MultiplyWords(k, a, b)
	if code != impl.ErrNone || !impl.IsReducedWord(k, w) {
		t.Fatalf("MultiplyWords(%d, %v, %v) = %v, %d", k, a, b, w, code)
	}
	return w
}

func mustInvert(t *testing.T, k int64, a []int64) []int64 {
	t.Helper()
	w, code := impl.InvertWord(k, a)
	if code != impl.ErrNone || impl.IsReducedWord(k, w) != impl.IsReducedWord(k, a) {
		t.Fatalf("InvertWord(%d, %v) = %v, %d", k, a, w, code)
	}
	return w
}

func checkAssociative(t *testing.T, k int64, a []int64, b []int64, c []int64) {
	t.Helper()
	left, right := mustMultiply(t, k, mustMultiply(t, k, a, b), c), mustMultiply(t, k, a, mustMultiply(t, k, b, c))
	if !slices.Equal(left, right) {
		t.Fatalf("(%v %v) %v = %v, but with the brackets behind it is %v", a, b, c, left, right)
	}
}

// checkIdentityAndInverse is for a reduced word.
func checkIdentityAndInverse(t *testing.T, k int64, a []int64) {
	t.Helper()
	inverse := mustInvert(t, k, a)
	if !slices.Equal(mustMultiply(t, k, a, nil), a) || !slices.Equal(mustMultiply(t, k, nil, a), a) {
		t.Fatalf("the word without letters is no identity for %v", a)
	}
	if len(mustMultiply(t, k, a, inverse)) > 0 || len(mustMultiply(t, k, inverse, a)) > 0 {
		t.Fatalf("%v is no inverse of %v", inverse, a)
	}
	if !slices.Equal(mustInvert(t, k, inverse), a) {
		t.Fatalf("%v is the inverse of %v, but not the other way round", inverse, a)
	}
}

// The first part of the promise.
func TestReducedWordsFormAGroup(t *testing.T) {
	short := reducedTexts(2, 3)
	for _, a := range short {
		checkIdentityAndInverse(t, 2, word(a))
		for _, b := range short {
			for _, c := range short {
				checkAssociative(t, 2, word(a), word(b), word(c))
			}
		}
	}
	s := &scatter{62}
	for k := int64(1); k <= impl.MaxGens; k++ {
		for range 1000 {
			a, b, c := word(cancelled(s.text(k, 21))), word(cancelled(s.text(k, 21))), word(cancelled(s.text(k, 21)))
			checkIdentityAndInverse(t, k, a)
			checkAssociative(t, k, a, b, c)
			checkAssociative(t, k, a, mustInvert(t, k, a), b)
		}
		for _, text := range sampleTexts(s, k) {
			checkIdentityAndInverse(t, k, word(cancelled(text)))
		}
	}
}

// checkWordPair compares with the definitions, for any two words.
func checkWordPair(t *testing.T, k int64, a string, b string) {
	t.Helper()
	want, wantCode := limitedBytes(a + b)
	w, code := impl.MultiplyWords(k, word(a), word(b))
	checkWord(t, fmt.Sprintf("MultiplyWords of %q and %q", a, b), w, code, want, wantCode)
	want, wantCode = limitedBytes(inverseBytes(a) + inverseBytes(b) + a + b)
	w, code = impl.WordCommutator(k, word(a), word(b))
	checkWord(t, fmt.Sprintf("WordCommutator of %q and %q", a, b), w, code, want, wantCode)
	w, code = impl.InvertWord(k, word(a))
	checkWord(t, fmt.Sprintf("InvertWord of %q", a), w, code, inverseBytes(a), impl.ErrNone)
}

func TestProductsAndCommutators(t *testing.T) {
	for _, a := range allTexts(2, 4) {
		for _, b := range allTexts(2, 3) {
			checkWordPair(t, 2, a, b)
		}
	}
	s := &scatter{63}
	for k := range int64(impl.MaxGens + 1) {
		list := sampleTexts(s, k)
		for _, a := range list {
			checkWordPair(t, k, a, a)
			checkWordPair(t, k, a, inverseBytes(a))
			checkWordPair(t, k, inverseBytes(a), cancelled(a))
			checkWordPair(t, k, a, inverseBytes(a[len(a)/2:]))
			for range 20 {
				checkWordPair(t, k, a, list[s.below(int64(len(list)))])
			}
		}
	}
}

// The guarantee of the chapter.
func TestResultsDependOnReducedFormsAlone(t *testing.T) {
	s := &scatter{64}
	for k := int64(1); k <= impl.MaxGens; k++ {
		for range 500 {
			a, b := cancelled(s.text(k, 30)), cancelled(s.text(k, 30))
			longA, longB := word(s.padded(k, a, 17)), word(s.padded(k, b, 17))
			checkSame(t, "MultiplyWords", word(a), word(b), longA, longB, func(x []int64, y []int64) ([]int64, int64) { return impl.MultiplyWords(k, x, y) })
			checkSame(t, "WordCommutator", word(a), word(b), longA, longB, func(x []int64, y []int64) ([]int64, int64) { return impl.WordCommutator(k, x, y) })
			checkSame(t, "WordPower", word(a), word(b), longA, longB, func(x []int64, y []int64) ([]int64, int64) { return impl.WordPower(k, x, int64(len(b)%7-3)) })
			checkSame(t, "ExponentSums", word(a), word(b), longA, longB, func(x []int64, y []int64) ([]int64, int64) { return impl.ExponentSums(k, x) })
			checkSame(t, "SubstituteWord", word(a), word(b), longA, longB, func(x []int64, y []int64) ([]int64, int64) {
				return impl.SubstituteWord(k, x, k, slices.Repeat([][]int64{y}, int(k)))
			})
			checkSame(t, "InvertWord", word(a), word(b), longA, longB, func(x []int64, y []int64) ([]int64, int64) { return impl.ReduceWord(k, mustInvert(t, k, x)) })
		}
	}
}

func checkSame(t *testing.T, name string, a []int64, b []int64, longA []int64, longB []int64, f func([]int64, []int64) ([]int64, int64)) {
	t.Helper()
	w, code := f(a, b)
	long, longCode := f(longA, longB)
	if !slices.Equal(w, long) || code != longCode {
		t.Fatalf("%s of %v and %v = %v, %d, but of %v and %v = %v, %d", name, a, b, w, code, longA, longB, long, longCode)
	}
}

func checkPower(t *testing.T, k int64, text string, e int64) {
	t.Helper()
	base := text
	if e < 0 {
		base = inverseBytes(text)
	}
	want, wantCode := limitedBytes(strings.Repeat(base, int(max(e, -e))))
	w, code := impl.WordPower(k, word(text), e)
	checkWord(t, fmt.Sprintf("WordPower of %q, %d", text, e), w, code, want, wantCode)
}

func TestWordPower(t *testing.T) {
	for _, text := range append(allTexts(2, 3), "abABab", "abaBA", "aaabAAA", "aabbAaBBAA") {
		for e := int64(-impl.MaxWord); e <= impl.MaxWord; e++ {
			checkPower(t, 2, text, e)
		}
	}
	s := &scatter{65}
	for k := range int64(impl.MaxGens + 1) {
		for _, text := range sampleTexts(s, k) {
			for _, e := range []int64{-64, -2, -1, 0, 1, 2, 3, 64, s.below(129) - 64} {
				checkPower(t, k, text, e)
			}
		}
	}
}

func TestPowersAddTheirExponents(t *testing.T) {
	for _, text := range reducedTexts(3, 3) {
		for e := int64(-10); e <= 10; e++ {
			for f := int64(-10); f <= 10; f++ {
				first, _ := impl.WordPower(3, word(text), e)
				second, _ := impl.WordPower(3, word(text), f)
				both, code := impl.WordPower(3, word(text), e+f)
				if !slices.Equal(mustMultiply(t, 3, first, second), both) || code != impl.ErrNone {
					t.Fatalf("the powers %d and %d of %s are %v and %v, and the power of the sum is %v, %d", e, f, text, first, second, both, code)
				}
			}
		}
	}
}

// The limit is one for the whole reduced form: neither for the letters before, nor for a part of them.
func TestWordLimits(t *testing.T) {
	a, b := strings.Repeat("a", 64), strings.Repeat("b", 64)
	for length := range 65 {
		checkWordPair(t, 2, a[:length], a[:64-length])
		checkWordPair(t, 2, a[:length], b)
		checkWordPair(t, 2, a[:length], inverseBytes(a))
		checkWordPair(t, 2, a[:length], b[:length])
		checkWordPair(t, 2, b[:64-length]+a[:length], inverseBytes(a[:length])+b[:64-length])
	}
	for _, c := range []struct {
		text   string
		e      int64
		length int
		code   int64
	}{
		{a[:1], 64, 64, impl.ErrNone}, {a[:1], -64, 64, impl.ErrNone}, {a[:2], 32, 64, impl.ErrNone}, {a[:2], 33, 0, impl.ErrLimit}, {a[:2], -33, 0, impl.ErrLimit}, {a[:13], 5, 0, impl.ErrLimit}, {a, 1, 64, impl.ErrNone}, {a, -1, 64, impl.ErrNone}, {a, 2, 0, impl.ErrLimit}, {a, 64, 0, impl.ErrLimit}, {a, -64, 0, impl.ErrLimit}, {a, 0, 0, impl.ErrNone},
		{"", 64, 0, impl.ErrNone}, {"", -64, 0, impl.ErrNone}, {strings.Repeat("aA", 32), 64, 0, impl.ErrNone}, {strings.Repeat("bB", 31) + "a", -64, 64, impl.ErrNone},
		{a[:31] + "b" + inverseBytes(a[:31]), 2, 64, impl.ErrNone}, {a[:31] + "b" + inverseBytes(a[:31]), -2, 64, impl.ErrNone}, {a[:31] + "b" + inverseBytes(a[:31]), 3, 0, impl.ErrLimit}, {a[:31] + "b" + inverseBytes(a[:31]), -3, 0, impl.ErrLimit}, {a[:30] + "bb" + inverseBytes(a[:30]), 3, 0, impl.ErrLimit},
	} {
		w, code := impl.WordPower(2, word(c.text), c.e)
		if len(w) != c.length || code != c.code {
			t.Errorf("WordPower of %s, %d has %d letters, and the code is %d", c.text, c.e, len(w), code)
		}
		checkPower(t, 2, c.text, c.e)
	}
	for _, c := range []struct {
		text   string
		images []string
		length int
		code   int64
	}{
		{"aab", []string{a[:40], inverseBytes(a)}, 16, impl.ErrNone}, {a, []string{"b", ""}, 64, impl.ErrNone}, {"ab", []string{a[:32], a[:32]}, 64, impl.ErrNone}, {"ab", []string{a[:32], a[:33]}, 0, impl.ErrLimit}, {a[:33], []string{"ab", b}, 0, impl.ErrLimit},
		{a, []string{a, b}, 0, impl.ErrLimit}, {a, []string{"", b}, 0, impl.ErrNone}, {a[:32] + inverseBytes(a[:32]), []string{a, b}, 0, impl.ErrNone}, {"abB", []string{a, b}, 64, impl.ErrNone}, {a[:32] + "b", []string{"ab", inverseBytes(strings.Repeat("ab", 32))}, 0, impl.ErrNone},
	} {
		w, code := impl.SubstituteWord(2, word(c.text), 2, [][]int64{word(c.images[0]), word(c.images[1])})
		if len(w) != c.length || code != c.code {
			t.Errorf("SubstituteWord of %s, %v has %d letters, and the code is %d", c.text, c.images, len(w), code)
		}
	}
}

func TestExponentSums(t *testing.T) {
	s := &scatter{66}
	for k := range int64(impl.MaxGens + 1) {
		for _, text := range append(sampleTexts(s, k), allTexts(int(k), 3)...) {
			want := make([]int64, k)
			for i := range want {
				want[i] = int64(strings.Count(text, positiveLetters[i:i+1]) - strings.Count(text, negativeLetters[i:i+1]))
			}
			if sums, code := impl.ExponentSums(k, word(text)); !slices.Equal(sums, want) || code != impl.ErrNone {
				t.Fatalf("ExponentSums(%d) of %q = %v, %d", k, text, sums, code)
			}
		}
	}
}

func (s *scatter) texts(k int64, count int64, length int) []string {
	var list []string
	for range count {
		text := ""
		if k > 0 {
			text = s.text(k, int(s.below(int64(length)+1)))
		}
		list = append(list, text)
	}
	return list
}

func wordsOf(texts []string) [][]int64 {
	var words [][]int64
	for _, text := range texts {
		words = append(words, word(text))
	}
	return words
}

func substitutedBytes(text string, images []string) string {
	var pairs []string
	for i, image := range images {
		pairs = append(pairs, positiveLetters[i:i+1], image, negativeLetters[i:i+1], inverseBytes(image))
	}
	return strings.NewReplacer(pairs...).Replace(text)
}

func checkSubstitution(t *testing.T, k int64, text string, m int64, images []string) {
	t.Helper()
	want, wantCode := limitedBytes(substitutedBytes(text, images))
	w, code := impl.SubstituteWord(k, word(text), m, wordsOf(images))
	checkWord(t, fmt.Sprintf("SubstituteWord of %q, %q", text, images), w, code, want, wantCode)
}

func TestSubstituteWord(t *testing.T) {
	for _, text := range allTexts(2, 3) {
		for _, first := range allTexts(2, 2) {
			for _, second := range allTexts(2, 2) {
				checkSubstitution(t, 2, text, 2, []string{first, second})
			}
		}
	}
	s := &scatter{67}
	for k := range int64(impl.MaxGens + 1) {
		for m := range int64(impl.MaxGens + 1) {
			for _, text := range sampleTexts(s, k) {
				checkSubstitution(t, k, text, m, s.texts(m, k, []int{0, 1, 3, 10, impl.MaxWord}[s.below(5)]))
			}
		}
	}
}

// The second part of the promise: a substitution maps products to products, and so do two of them in succession.
func TestSubstitutionMapsProductsToProducts(t *testing.T) {
	s := &scatter{68}
	for range 20000 {
		k, m, n := 1+s.below(6), 1+s.below(6), 1+s.below(6)
		images, nextImages := wordsOf(s.texts(m, k, 3)), wordsOf(s.texts(n, m, 2))
		a, b := word(s.text(k, int(s.below(6)))), word(s.text(k, int(s.below(6))))
		ofA, ofB, ofProduct := mustSubstitute(t, k, a, m, images), mustSubstitute(t, k, b, m, images), mustSubstitute(t, k, mustMultiply(t, k, a, b), m, images)
		if !slices.Equal(ofProduct, mustMultiply(t, m, ofA, ofB)) {
			t.Fatalf("by %v, %v and %v become %v and %v, but their product becomes %v", images, a, b, ofA, ofB, ofProduct)
		}
		if ofInverse := mustSubstitute(t, k, mustInvert(t, k, a), m, images); !slices.Equal(ofInverse, mustInvert(t, m, ofA)) {
			t.Fatalf("by %v, %v becomes %v, but its inverse %v", images, a, ofA, ofInverse)
		}
		var composed [][]int64
		for _, image := range images {
			composed = append(composed, mustSubstitute(t, m, image, n, nextImages))
		}
		if twice, once := mustSubstitute(t, m, ofA, n, nextImages), mustSubstitute(t, k, a, n, composed); !slices.Equal(twice, once) {
			t.Fatalf("by %v and then %v, %v becomes %v, but by both at once %v", images, nextImages, a, twice, once)
		}
	}
}

func mustSubstitute(t *testing.T, k int64, w []int64, m int64, images [][]int64) []int64 {
	t.Helper()
	image, code := impl.SubstituteWord(k, w, m, images)
	if code != impl.ErrNone || !impl.IsReducedWord(m, image) {
		t.Fatalf("SubstituteWord(%d, %v, %d, %v) = %v, %d", k, w, m, images, image, code)
	}
	return image
}

func checkTextOfWord(t *testing.T, k int64, w []int64) {
	t.Helper()
	text, code := impl.WordText(k, w)
	if text != cmp.Or(bytesOf(w), "1") || code != impl.ErrNone {
		t.Fatalf("WordText(%d, %v) = %q, %d", k, w, text, code)
	}
	if parsed, code := impl.ParseWord(k, text); !slices.Equal(parsed, w) || code != impl.ErrNone {
		t.Fatalf("ParseWord(%d, %q) = %v, %d, not %v", k, text, parsed, code, w)
	}
}

// The last part of the promise.
func TestTextsAreParsedToTheirWords(t *testing.T) {
	s := &scatter{69}
	for k := range int64(impl.MaxGens + 1) {
		for _, text := range append(sampleTexts(s, k), allTexts(int(k), 3)...) {
			checkTextOfWord(t, k, word(text))
		}
	}
	for _, c := range []struct {
		w    []int64
		text string
	}{{nil, "1"}, {[]int64{1, 2, 3, 4, 5, 6}, "abcdef"}, {[]int64{-1, -2, -3, -4, -5, -6}, "ABCDEF"}, {[]int64{-1, -2, 1, 2}, "ABab"}, {[]int64{1, -1}, "aA"}, {times(64, -6), strings.Repeat("F", 64)}} {
		if text, code := impl.WordText(6, c.w); text != c.text || code != impl.ErrNone {
			t.Errorf("WordText(6, %v) = %q, %d", c.w, text, code)
		}
		if w, code := impl.ParseWord(6, c.text); !slices.Equal(w, c.w) || code != impl.ErrNone {
			t.Errorf("ParseWord(6, %q) = %v, %d", c.text, w, code)
		}
	}
}

// checkParse looks up each byte among those that stand for a letter over k generators.
func checkParse(t *testing.T, k int64, text string) {
	t.Helper()
	want, wantCode := text, int64(impl.ErrNone)
	switch {
	case k < 0 || k > impl.MaxGens:
		wantCode = impl.ErrRange
	case text == "1":
		want = ""
	case text == "" || strings.Trim(text, positiveLetters[:k]+negativeLetters[:k]) != "":
		wantCode = impl.ErrSyntax
	case len(text) > 64:
		wantCode = impl.ErrLimit
	}
	if wantCode != impl.ErrNone {
		want = ""
	}
	w, code := impl.ParseWord(k, text)
	if !slices.Equal(w, word(want)) || code != wantCode {
		t.Fatalf("ParseWord(%d, %q) = %v, %d, not %v, %d", k, text, w, code, word(want), wantCode)
	}
}

func TestParseWordBySearch(t *testing.T) {
	for k := range int64(impl.MaxGens + 1) {
		checkParse(t, k, "")
		for first := range 256 {
			checkParse(t, k, string([]byte{byte(first)}))
			for second := range 256 {
				checkParse(t, k, string([]byte{byte(first), byte(second)}))
			}
		}
		for r := range rune(0x110000) {
			checkParse(t, k, string(r))
		}
		for _, entries := range allVectors(9, 4) {
			var text []byte
			for _, entry := range entries {
				text = append(text, "aBf1 g\x00\xff^"[entry])
			}
			checkParse(t, k, string(text))
		}
	}
}

// A byte that stands for no letter is an error ahead of too many bytes.
func TestParseWordErrorsInOrder(t *testing.T) {
	letters := strings.Repeat("aBAb", 5000)
	for _, k := range append(slices.Clone(outsideGens), 0, 1, 2, 6) {
		for _, length := range []int{0, 1, 2, 3, 62, 63, 64, 65, 66, 128, 255, 256, 257, 20000} {
			text := letters[:length]
			checkParse(t, k, text)
			for _, wrong := range []string{"1", "c", "G", "g", "h", "0", " ", "\n", "\x00", "\x80", "\xff", "\xc3", "é", "а", "ａ", " š", "š", "慡", "\U0001F661"} {
				for _, place := range []int{0, length / 2, length} {
					checkParse(t, k, text[:place]+wrong+text[place:])
				}
			}
		}
		for _, length := range []int{2, 3, 64, 65} {
			checkParse(t, k, strings.Repeat("1", length))
		}
	}
}

// wordCalls has every function whose first error is that of its number of generators and whose next one is that of its words.
func wordCalls(k int64) map[string]func(w []int64) (string, []int64, int64) {
	plain := func(w []int64, code int64) (string, []int64, int64) { return "", w, code }
	images := make([][]int64, max(0, min(6, k)))
	return map[string]func([]int64) (string, []int64, int64){
		"ReduceWord":             func(w []int64) (string, []int64, int64) { return plain(impl.ReduceWord(k, w)) },
		"InvertWord":             func(w []int64) (string, []int64, int64) { return plain(impl.InvertWord(k, w)) },
		"MultiplyWords, 1":       func(w []int64) (string, []int64, int64) { return plain(impl.MultiplyWords(k, w, nil)) },
		"MultiplyWords, 2":       func(w []int64) (string, []int64, int64) { return plain(impl.MultiplyWords(k, nil, w)) },
		"MultiplyWords, 3":       func(w []int64) (string, []int64, int64) { return plain(impl.MultiplyWords(k, times(64, k), w)) },
		"MultiplyWords, 4":       func(w []int64) (string, []int64, int64) { return plain(impl.MultiplyWords(k, w, times(64, k))) },
		"MultiplyWords, 5":       func(w []int64) (string, []int64, int64) { return plain(impl.MultiplyWords(k, w, w)) },
		"WordCommutator, 1":      func(w []int64) (string, []int64, int64) { return plain(impl.WordCommutator(k, w, nil)) },
		"WordCommutator, 2":      func(w []int64) (string, []int64, int64) { return plain(impl.WordCommutator(k, nil, w)) },
		"WordPower, 0":           func(w []int64) (string, []int64, int64) { return plain(impl.WordPower(k, w, 0)) },
		"WordPower, 64":          func(w []int64) (string, []int64, int64) { return plain(impl.WordPower(k, w, 64)) },
		"WordPower, 65":          func(w []int64) (string, []int64, int64) { return plain(impl.WordPower(k, w, 65)) },
		"WordPower, the least":   func(w []int64) (string, []int64, int64) { return plain(impl.WordPower(k, w, math.MinInt64)) },
		"ExponentSums":           func(w []int64) (string, []int64, int64) { return plain(impl.ExponentSums(k, w)) },
		"SubstituteWord, 0":      func(w []int64) (string, []int64, int64) { return plain(impl.SubstituteWord(k, w, 0, images)) },
		"SubstituteWord, 6":      func(w []int64) (string, []int64, int64) { return plain(impl.SubstituteWord(k, w, 6, images)) },
		"SubstituteWord, images": func(w []int64) (string, []int64, int64) { return plain(impl.SubstituteWord(k, w, 6, [][]int64{{7}})) },
		"WordText": func(w []int64) (string, []int64, int64) {
			text, code := impl.WordText(k, w)
			return text, nil, code
		},
	}
}

func checkWordError(t *testing.T, k int64, w []int64, want int64) {
	t.Helper()
	for name, call := range wordCalls(k) {
		if text, result, code := call(w); text != "" || len(result) != 0 || code != want {
			t.Errorf("%s over %d generators of %v = %q, %v, %d", name, k, w, text, result, code)
		}
	}
}

// A number of generators that is out of its range is an error ahead of a word that is none, and that ahead of an exponent out of its range and of a word too long.
func TestWordErrorsInOrder(t *testing.T) {
	for _, k := range outsideGens {
		checkWordError(t, k, nil, impl.ErrRange)
		checkWordError(t, k, []int64{1}, impl.ErrRange)
		for _, w := range invalidWords(k) {
			checkWordError(t, k, w, impl.ErrRange)
		}
	}
	for k := range int64(impl.MaxGens + 1) {
		for _, w := range append(invalidWords(k), times(100000, k)) {
			checkWordError(t, k, w, impl.ErrInvalid)
		}
	}
}

// An exponent out of its range is an error ahead of a power that is too long.
func TestPowerErrorsInOrder(t *testing.T) {
	for _, w := range [][]int64{nil, {1}, {1, -1}, times(64, 2)} {
		for _, e := range []int64{math.MinInt64, math.MinInt64 + 1, -1 << 32, -66, -65, 65, 66, 1 << 32, math.MaxInt64} {
			if power, code := impl.WordPower(2, w, e); len(power) != 0 || code != impl.ErrRange {
				t.Errorf("WordPower(2, %v, %d) = %v, %d", w, e, power, code)
			}
		}
	}
}

func checkSubstitutionError(t *testing.T, k int64, w []int64, m int64, images [][]int64, want int64) {
	t.Helper()
	if image, code := impl.SubstituteWord(k, w, m, images); len(image) != 0 || code != want {
		t.Errorf("SubstituteWord(%d, %v, %d, %v) = %v, %d", k, w, m, images, image, code)
	}
}

// Both numbers of generators are looked at before any word, and all images, used or not, before the length of the result.
func TestSubstitutionErrorsInOrder(t *testing.T) {
	for _, outside := range outsideGens {
		for k := range int64(impl.MaxGens + 1) {
			for _, w := range append(invalidWords(k), nil) {
				checkSubstitutionError(t, k, w, outside, make([][]int64, k), impl.ErrRange)
				checkSubstitutionError(t, outside, w, k, [][]int64{w}, impl.ErrRange)
				checkSubstitutionError(t, outside, w, outside, nil, impl.ErrRange)
			}
		}
	}
	for k := range int64(impl.MaxGens + 1) {
		for m := range int64(impl.MaxGens + 1) {
			long := [][]int64{nil, times(int(min(k, 1)*64), k)}
			for count := range int64(9) {
				if count != k {
					checkSubstitutionError(t, k, long[0], m, make([][]int64, count), impl.ErrInvalid)
					checkSubstitutionError(t, k, long[1], m, slices.Repeat([][]int64{times(int(min(m, 1)*64), m)}, int(count)), impl.ErrInvalid)
				}
			}
			for _, bad := range invalidWords(m) {
				for i := range k {
					images := slices.Repeat([][]int64{times(int(min(m, 1)*64), m)}, int(k))
					images[i] = bad
					checkSubstitutionError(t, k, long[0], m, images, impl.ErrInvalid)
					checkSubstitutionError(t, k, long[1], m, images, impl.ErrInvalid)
				}
			}
		}
	}
}

type wordResult struct {
	w    []int64
	code int64
}

func resultOf(w []int64, code int64) wordResult { return wordResult{w, code} }

func TestWordCases(t *testing.T) {
	for _, c := range []struct {
		name string
		got  wordResult
		want string
	}{
		{"ReduceWord", resultOf(impl.ReduceWord(2, []int64{1, 2, -2, 1, -1, -1})), ""},
		{"ReduceWord over nothing", resultOf(impl.ReduceWord(0, nil)), ""},
		{"InvertWord", resultOf(impl.InvertWord(2, []int64{1, -2})), "bA"},
		{"InvertWord of a word that is not reduced", resultOf(impl.InvertWord(3, []int64{1, -1, 3})), "CaA"},
		{"MultiplyWords", resultOf(impl.MultiplyWords(2, []int64{1, 2}, []int64{-2, 1})), "aa"},
		{"WordPower", resultOf(impl.WordPower(2, []int64{1, 2, -1}, -2)), "aBBA"},
		{"WordPower of a word that is not reduced", resultOf(impl.WordPower(2, []int64{1, 2, -2}, 1)), "a"},
		{"WordCommutator", resultOf(impl.WordCommutator(2, []int64{1}, []int64{2})), "ABab"},
		{"SubstituteWord", resultOf(impl.SubstituteWord(2, []int64{1, -2}, 2, [][]int64{{2}, {1, 2}})), "A"},
		{"SubstituteWord over nothing", resultOf(impl.SubstituteWord(0, nil, 0, nil)), ""},
		{"SubstituteWord from nothing", resultOf(impl.SubstituteWord(0, nil, 6, nil)), ""},
		{"SubstituteWord to nothing", resultOf(impl.SubstituteWord(2, []int64{1, 2, 2}, 0, [][]int64{nil, nil})), ""},
		{"SubstituteWord to more generators", resultOf(impl.SubstituteWord(1, []int64{-1}, 6, [][]int64{{4, -6}})), "fD"},
		{"MultiplyWords over nothing", resultOf(impl.MultiplyWords(0, nil, nil)), ""},
		{"WordPower over nothing", resultOf(impl.WordPower(0, nil, -64)), ""},
		{"WordCommutator over nothing", resultOf(impl.WordCommutator(0, nil, nil)), ""},
		{"ParseWord over nothing", resultOf(impl.ParseWord(0, "1")), ""},
	} {
		checkWord(t, c.name, c.got.w, c.got.code, c.want, impl.ErrNone)
	}
	if sums, code := impl.ExponentSums(3, []int64{1, -2, 1}); !slices.Equal(sums, []int64{2, -1, 0}) || code != impl.ErrNone {
		t.Errorf("ExponentSums = %v, %d", sums, code)
	}
}

func checkWordMemory(t *testing.T, k int64, a []int64, b []int64, e int64) {
	t.Helper()
	images := roomyMatrix(matrix(k, 0, slices.Repeat([][]int64{b}, int(max(0, min(6, k))))...))
	first, second := matrix(k, 0, roomy(a)), roomy(b)
	x, y := first.Rows[0], second
	for name, call := range map[string]func() (impl.Matrix, int64){
		"ReduceWord": func() (impl.Matrix, int64) {
			w, code := impl.ReduceWord(k, x)
			return rowResult(0, code, w)
		},
		"InvertWord": func() (impl.Matrix, int64) {
			w, code := impl.InvertWord(k, x)
			return rowResult(0, code, w)
		},
		"MultiplyWords": func() (impl.Matrix, int64) {
			w, code := impl.MultiplyWords(k, x, y)
			return rowResult(0, code, w)
		},
		"a square": func() (impl.Matrix, int64) {
			w, code := impl.MultiplyWords(k, x, x)
			return rowResult(0, code, w)
		},
		"WordPower": func() (impl.Matrix, int64) {
			w, code := impl.WordPower(k, x, e)
			return rowResult(0, code, w)
		},
		"WordCommutator": func() (impl.Matrix, int64) {
			w, code := impl.WordCommutator(k, x, y)
			return rowResult(0, code, w)
		},
		"ExponentSums": func() (impl.Matrix, int64) {
			w, code := impl.ExponentSums(k, x)
			return rowResult(0, code, w)
		},
		"SubstituteWord": func() (impl.Matrix, int64) {
			w, code := impl.SubstituteWord(k, x, k, images.Rows)
			return rowResult(0, code, w)
		},
		"the text and the tests": func() (impl.Matrix, int64) {
			text, code := impl.WordText(k, x)
			w, _ := impl.ParseWord(k, text)
			return rowResult(int64(len(fmt.Sprint(text, impl.IsWord(k, x), impl.IsReducedWord(k, x)))), code, w)
		},
	} {
		checkCallMemory(t, name, call, first, images, second)
	}
}

func TestWordArgumentsStayAndResultsAreNew(t *testing.T) {
	s := &scatter{70}
	for k := range int64(impl.MaxGens + 1) {
		list := sampleTexts(s, k)
		for i, a := range list {
			checkWordMemory(t, k, word(a), word(list[s.below(int64(len(list)))]), int64(i%7-3))
			checkWordMemory(t, k, word(a), word(inverseBytes(a)), 1)
		}
		for _, bad := range invalidWords(k) {
			checkWordMemory(t, k, bad, nil, 2)
			checkWordMemory(t, k, nil, bad, -2)
		}
	}
	checkWordMemory(t, 7, []int64{1, 2}, []int64{3}, 1)
}
