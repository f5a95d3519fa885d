package tests

import (
	"cmp"
	"fmt"
	"math"
	"math/big"
	"regexp"
	"slices"
	"strings"
	"testing"

	"loop.example/g01076/impl"
)

func abelian(rank int64, factors ...int64) impl.Abelian {
	return impl.Abelian{Factors: factors, Rank: rank}
}

func sameAbelian(a impl.Abelian, b impl.Abelian) bool {
	return a.Rank == b.Rank && slices.Equal(a.Factors, b.Factors)
}

func times(n int, number int64) []int64 { return slices.Repeat([]int64{number}, n) }

// chainsUpTo are the lists of factors, of which the divisor divides the first, with a product up to the bound.
func chainsUpTo(bound int64, divisor int64) [][]int64 {
	list := [][]int64{nil}
	for first := divisor; first <= bound; first += divisor {
		if first > 1 {
			for _, rest := range chainsUpTo(bound/first, first) {
				list = append(list, append([]int64{first}, rest...))
			}
		}
	}
	return list
}

func smallAbelian(bound int64, maxRank int64) []impl.Abelian {
	var list []impl.Abelian
	for _, factors := range chainsUpTo(bound, 1) {
		for rank := range maxRank + 1 {
			list = append(list, abelian(rank, factors...))
		}
	}
	return list
}

// sampleAbelian has groups with every number of factors and every rank.
func sampleAbelian(s *scatter) []impl.Abelian {
	var list []impl.Abelian
	for count := range impl.MaxParts + 1 {
		for rank := range int64(impl.MaxParts - count + 1) {
			for range 4 {
				a := abelian(rank)
				for number := 2 + s.below([]int64{3, 60, 1000, impl.MaxFactor - 1}[s.below(4)]); len(a.Factors) < count; {
					a.Factors = append(a.Factors, number)
					if factor := 1 + s.below(5); number*factor <= impl.MaxFactor {
						number *= factor
					}
				}
				list = append(list, a)
			}
		}
	}
	return list
}

func extremeAbelian() []impl.Abelian {
	powers := []int64{2, 4, 8, 16, 32, 64, 128, 256, 512, 524288}
	return []impl.Abelian{
		abelian(10), abelian(0, times(10, 2)...), abelian(0, times(10, impl.MaxFactor)...), abelian(0, times(10, 999983)...), abelian(0, times(10, 510510)...), abelian(0, times(10, 994009)...),
		abelian(0, powers...), abelian(5, powers[5:]...), abelian(9, impl.MaxFactor), abelian(1, times(9, impl.MaxFactor)...), abelian(0, 10, 100, 1000, 10000, 100000, impl.MaxFactor), abelian(0, 2, 720720), abelian(0, 531441), abelian(0, 2, 6, 30, 210, 2310, 30030, 510510),
	}
}

func allAbelianGroups(s *scatter) []impl.Abelian {
	return slices.Concat(smallAbelian(64, 3), sampleAbelian(s), extremeAbelian())
}

func invalidAbelian() []impl.Abelian {
	list := []impl.Abelian{abelian(0, 2, 3), abelian(0, 4, 2), abelian(0, 2, 4, 6), abelian(0, 6, 3, 6), abelian(0, 2, 2, 3), abelian(0, 1, 2), abelian(0, 2, 0), abelian(0, 0, 0), abelian(0, -2, 2), abelian(0, -4, -4), abelian(0, 2, 4, 1),
		abelian(0, times(11, 2)...), abelian(1, times(10, 2)...), abelian(10, 2), abelian(6, times(5, 2)...), abelian(-1, times(11, 2)...), abelian(math.MinInt64, times(500, 2)...), abelian(0, times(500, 0)...), abelian(0, times(500, 6)...), abelian(0, append(times(9, 2), 2, 5)...)}
	for _, rank := range []int64{math.MinInt64, -11, -1, impl.MaxParts + 1, math.MaxInt64 - 1, math.MaxInt64} {
		list = append(list, abelian(rank), abelian(rank, 2), abelian(rank, 2, 4))
	}
	for _, factor := range []int64{math.MinInt64, -1000000, -2, -1, 0, 1, impl.MaxFactor + 1, impl.MaxFactor * 2, math.MaxInt64} {
		list = append(list, abelian(0, factor), abelian(2, factor), abelian(0, 2, factor), abelian(0, factor, factor), abelian(0, factor, impl.MaxFactor))
	}
	return list
}

func TestIsAbelian(t *testing.T) {
	if impl.MaxParts != 10 || impl.MaxFactor != 1000000 || impl.MaxCount != 1000000000000000 {
		t.Errorf("the limits are %d, %d and %d", impl.MaxParts, impl.MaxFactor, impl.MaxCount)
	}
	for _, a := range append(allAbelianGroups(&scatter{51}), impl.Abelian{}) {
		if !impl.IsAbelian(a) {
			t.Fatalf("IsAbelian(%v) is false", a)
		}
	}
	for _, a := range invalidAbelian() {
		if impl.IsAbelian(a) {
			t.Errorf("IsAbelian(%v) is true", a)
		}
	}
	for _, factors := range allVectors(9, 3) {
		a := abelian(0, factors...)
		if want := factors[0] > 1 && factors[1] > 1 && factors[2] > 1 && factors[1]%factors[0] == 0 && factors[2]%factors[1] == 0; impl.IsAbelian(a) != want {
			t.Errorf("IsAbelian(%v) is %v", a, !want)
		}
	}
}

// primeUnder is the least prime that divides n.
func primeUnder(n int64) int64 {
	for p := int64(2); p*p <= n; p++ {
		if n%p == 0 {
			return p
		}
	}
	return n
}

func isPowerOf(p int64, n int64) bool {
	for n > 1 && n%p == 0 {
		n /= p
	}
	return n == 1
}

// powersByTrial are the powers of different primes that multiply to n.
func powersByTrial(n int64) []int64 {
	var powers []int64
	for n > 1 {
		p, power := primeUnder(n), int64(1)
		for n%p == 0 {
			n /= p
			power *= p
		}
		powers = append(powers, power)
	}
	return powers
}

func sortedPowers(powers []int64) []int64 {
	return slices.SortedFunc(slices.Values(powers), func(a int64, b int64) int {
		return cmp.Or(cmp.Compare(primeUnder(a), primeUnder(b)), cmp.Compare(a, b))
	})
}

func partsByTrial(factors []int64) []int64 {
	var powers []int64
	for _, factor := range factors {
		powers = append(powers, powersByTrial(factor)...)
	}
	return sortedPowers(powers)
}

// productByPrimes multiplies the greatest powers of all primes, then the next ones and so on.
func productByPrimes(powers []int64, rank int64) (impl.Abelian, int64) {
	byPrime := map[int64][]int64{}
	for _, power := range sortedPowers(powers) {
		byPrime[primeUnder(power)] = append(byPrime[primeUnder(power)], power)
	}
	a := abelian(rank)
	for len(byPrime) > 0 {
		factor := big.NewInt(1)
		for p, left := range byPrime {
			factor.Mul(factor, big.NewInt(left[len(left)-1]))
			if byPrime[p] = left[:len(left)-1]; len(left) == 1 {
				delete(byPrime, p)
			}
		}
		if factor.Cmp(big.NewInt(impl.MaxFactor)) > 0 {
			return impl.Abelian{}, impl.ErrLimit
		}
		a.Factors = slices.Insert(a.Factors, 0, factor.Int64())
	}
	if int64(len(a.Factors))+rank > impl.MaxParts {
		return impl.Abelian{}, impl.ErrLimit
	}
	return a, impl.ErrNone
}

// checkParts is the first half of the promise: the parts and the rank give the group back.
func checkParts(t *testing.T, s *scatter, a impl.Abelian) []int64 {
	t.Helper()
	parts, code := impl.PrimaryParts(a)
	if !slices.Equal(parts, partsByTrial(a.Factors)) || code != impl.ErrNone {
		t.Fatalf("PrimaryParts(%v) = %v, %d", a, parts, code)
	}
	shuffled := slices.Clone(parts)
	for i := range shuffled {
		j := s.below(int64(i) + 1)
		shuffled[i], shuffled[j] = shuffled[j], shuffled[i]
	}
	for _, order := range [][]int64{parts, shuffled} {
		finite, code := impl.FromPrimary(order)
		if !sameAbelian(finite, abelian(0, a.Factors...)) || code != impl.ErrNone {
			t.Fatalf("FromPrimary(%v) = %v, %d, but they are the parts of %v", order, finite, code, a)
		}
		if sum, code := impl.SumAbelian(finite, abelian(a.Rank)); !sameAbelian(sum, a) || code != impl.ErrNone {
			t.Fatalf("SumAbelian(%v, %v) = %v, %d", finite, abelian(a.Rank), sum, code)
		}
	}
	return parts
}

func checkText(t *testing.T, a impl.Abelian) string {
	t.Helper()
	var names []string
	for _, factor := range a.Factors {
		names = append(names, fmt.Sprintf("C%d", factor))
	}
	want := strings.Join(append(names, slices.Repeat([]string{"Z"}, int(a.Rank))...), " x ")
	text, code := impl.AbelianText(a)
	if text != cmp.Or(want, "1") || code != impl.ErrNone {
		t.Fatalf("AbelianText(%v) = %q, %d", a, text, code)
	}
	if read, code := impl.ReadAbelian(text); !sameAbelian(read, a) || code != impl.ErrNone {
		t.Fatalf("ReadAbelian(%q) = %v, %d, not %v", text, read, code, a)
	}
	return text
}

// The promise: no two groups have the same parts and rank, and no two have the same text.
func TestPartsAndRankOrTextDetermineTheGroup(t *testing.T) {
	s := &scatter{52}
	byParts, byText := map[string]impl.Abelian{}, map[string]impl.Abelian{}
	for _, a := range append(allAbelianGroups(s), smallAbelian(400, 1)...) {
		parts, text := fmt.Sprint(checkParts(t, s, a), a.Rank), checkText(t, a)
		if b, known := byParts[parts]; known && !sameAbelian(a, b) {
			t.Fatalf("%v and %v have the parts and the rank %s", a, b, parts)
		}
		if b, known := byText[text]; known && !sameAbelian(a, b) {
			t.Fatalf("%v and %v have the text %q", a, b, text)
		}
		byParts[parts], byText[text] = a, a
	}
}

func TestPartsAndTextCases(t *testing.T) {
	for _, c := range []struct {
		a     impl.Abelian
		parts []int64
		text  string
	}{
		{abelian(0), nil, "1"}, {abelian(1), nil, "Z"}, {abelian(3), nil, "Z x Z x Z"}, {abelian(1, 2, 6), []int64{2, 2, 3}, "C2 x C6 x Z"}, {abelian(1, 2, 4), []int64{2, 4}, "C2 x C4 x Z"},
		{abelian(0, 6, 12), []int64{2, 4, 3, 3}, "C6 x C12"}, {abelian(0, impl.MaxFactor), []int64{64, 15625}, "C1000000"}, {abelian(0, 999983), []int64{999983}, "C999983"},
		{abelian(2, 10, 10, 20), []int64{2, 2, 4, 5, 5, 5}, "C10 x C10 x C20 x Z x Z"}, {abelian(0, 510510), []int64{2, 3, 5, 7, 11, 13, 17}, "C510510"},
	} {
		if parts, code := impl.PrimaryParts(c.a); !slices.Equal(parts, c.parts) || code != impl.ErrNone {
			t.Errorf("PrimaryParts(%v) = %v, %d", c.a, parts, code)
		}
		if text, code := impl.AbelianText(c.a); text != c.text || code != impl.ErrNone {
			t.Errorf("AbelianText(%v) = %q, %d", c.a, text, code)
		}
		if a, code := impl.ReadAbelian(c.text); !sameAbelian(a, c.a) || code != impl.ErrNone {
			t.Errorf("ReadAbelian(%q) = %v, %d", c.text, a, code)
		}
	}
}

var abelianPattern = regexp.MustCompile(`\A(C[1-9][0-9]{0,6}|Z)( x (C[1-9][0-9]{0,6}|Z))*\z`)

// readByPattern leaves the zero value where there is no group.
func readByPattern(s string) (impl.Abelian, int64) {
	if s == "1" {
		return impl.Abelian{}, impl.ErrNone
	}
	var a impl.Abelian
	for _, name := range strings.Split(s, " x ") {
		var factor int64
		if fmt.Sscanf(name, "C%d", &factor); name == "Z" {
			a.Rank++
		} else if a.Factors = append(a.Factors, factor); a.Rank > 0 {
			return impl.Abelian{}, impl.ErrSyntax
		}
	}
	if !abelianPattern.MatchString(s) || len(a.Factors)+int(a.Rank) > impl.MaxParts {
		return impl.Abelian{}, impl.ErrSyntax
	}
	for i, factor := range a.Factors {
		if factor < 2 || factor > impl.MaxFactor || i > 0 && factor%a.Factors[i-1] != 0 {
			return impl.Abelian{}, impl.ErrSyntax
		}
	}
	return a, impl.ErrNone
}

func checkRead(t *testing.T, s string) {
	t.Helper()
	want, wantCode := readByPattern(s)
	if a, code := impl.ReadAbelian(s); !sameAbelian(a, want) || code != wantCode {
		t.Fatalf("ReadAbelian(%q) = %v, %d, not %v, %d", s, a, code, want, wantCode)
	}
}

func TestReadAbelianAfterOneChange(t *testing.T) {
	for _, text := range []string{"1", "Z", "C2", "C12", "C100000", "C1000000", "C999999", "C2 x C4 x Z", "C6 x C12", "C2 x C2 x C20", "Z x Z", "C10 x Z x Z", strings.Repeat("Z x ", 9) + "Z", strings.Repeat("C2 x ", 9) + "C4", strings.Repeat("C2 x ", 8) + "C4 x Z"} {
		checkRead(t, text)
		for i := range len(text) + 1 {
			for change := range 256 {
				checkRead(t, text[:i]+string([]byte{byte(change)})+text[i:])
				if i < len(text) {
					checkRead(t, text[:i]+string([]byte{byte(change)})+text[i+1:])
				}
			}
			for j := i; j <= len(text); j++ {
				checkRead(t, text[:i]+text[j:])
				checkRead(t, text[i:j])
				checkRead(t, text[:j]+text[i:])
			}
		}
	}
}

// All short texts of the bytes that texts have.
func TestReadAbelianBySearch(t *testing.T) {
	const letters = "C12Z x0"
	for n := range 6 {
		for _, v := range allVectors(int64(len(letters)), n) {
			s := make([]byte, n)
			for i, at := range v {
				s[i] = letters[at]
			}
			checkRead(t, string(s))
			checkRead(t, "C2 x "+string(s))
		}
	}
}

func TestReadAbelianErrors(t *testing.T) {
	for _, s := range []string{
		"", " ", "0", "2", "11", "01", "1 ", " 1", "1\n", "1 x 1", "1 x C2", "C2 x 1", "1 x Z", "C", "C0", "C1", "C02", "C+2", "C-2", "C 2", "C2 ", " C2", "C2.0", "C2e1", "C0x2", "C2_0", "c2", "z", "Z1", "CZ", "ZZ", "C2C2", "C2 xC2", "C2x C2", "C2xC2", "C2  x C2", "C2 x  C2", "C2 X C2", "C2 x", "C2 x ", " x C2", " x ", "x", "C2 x x C2", "C2 x  x C2",
		"C4 x C2", "C2 x C3", "Z x C2", "C2 x Z x C2", "C2 x C4 x C6", "C1 x C2", "C1000001", "C2 x C1000002", "C10000000", "C9223372036854775807", "C9223372036854775808", "C18446744073709551618", "C100000000000000000000000000000002", "C-9223372036854775808", "C\u0662", "C2 \u00d7 C2", "C2\x00", "\xff", "C2\u00a0x C2",
		strings.Repeat("Z x ", 10) + "Z", strings.Repeat("C2 x ", 10) + "C2", strings.Repeat("C2 x ", 10) + "Z", strings.Repeat("C2 x ", 10000) + "Z", "C" + strings.Repeat("9", 10000), "C" + strings.Repeat("0", 1000) + "2", strings.Repeat(" x ", 1000),
	} {
		if a, code := impl.ReadAbelian(s); !sameAbelian(a, impl.Abelian{}) || code != impl.ErrSyntax {
			t.Errorf("ReadAbelian(%q) = %v, %d", s, a, code)
		}
	}
}

func checkFromPrimary(t *testing.T, parts []int64) {
	t.Helper()
	want, wantCode := productByPrimes(parts, 0)
	a, code := impl.FromPrimary(parts)
	if !sameAbelian(a, want) || code != wantCode {
		t.Fatalf("FromPrimary(%v) = %v, %d, not %v, %d", parts, a, code, want, wantCode)
	}
	if code != impl.ErrNone {
		return
	}
	if again, code := impl.PrimaryParts(a); !slices.Equal(again, sortedPowers(parts)) || code != impl.ErrNone {
		t.Fatalf("PrimaryParts(%v) = %v, %d, but it is the product of %v", a, again, code, parts)
	}
}

func TestFromPrimary(t *testing.T) {
	s := &scatter{53}
	small := []int64{2, 3, 4, 5, 7, 8, 9}
	for n := range 5 {
		for _, v := range allVectors(int64(len(small)), n) {
			var parts []int64
			for _, at := range v {
				parts = append(parts, small[at])
			}
			checkFromPrimary(t, parts)
		}
	}
	for range 5000 {
		pool := [][]int64{{2, 4, 3}, {2, 3, 5, 7, 11, 13, 17}, small, {2, 4, 8, 16, 524288}, {2, 5, 64, 15625}, {997, 994009, 999983, 2, 3}}[s.below(6)]
		var parts []int64
		for range s.below(25) {
			parts = append(parts, pool[s.below(int64(len(pool)))])
		}
		checkFromPrimary(t, parts)
	}
}

func TestFromPrimaryCases(t *testing.T) {
	primes := slices.Repeat([]int64{2, 3, 5, 7, 11, 13, 17}, 10)
	for _, c := range []struct {
		parts   []int64
		factors []int64
		code    int64
	}{
		{nil, nil, impl.ErrNone}, {[]int64{3, 4, 3, 2}, []int64{6, 12}, impl.ErrNone}, {[]int64{2}, []int64{2}, impl.ErrNone}, {[]int64{64, 15625}, []int64{impl.MaxFactor}, impl.ErrNone}, {[]int64{9901, 101}, nil, impl.ErrLimit},
		{[]int64{999983}, []int64{999983}, impl.ErrNone}, {[]int64{524288}, []int64{524288}, impl.ErrNone}, {[]int64{994009, 997}, []int64{997, 994009}, impl.ErrNone}, {[]int64{999983, 2}, nil, impl.ErrLimit}, {[]int64{2, 999983, 999979}, nil, impl.ErrLimit},
		{times(10, 2), times(10, 2), impl.ErrNone}, {times(11, 2), nil, impl.ErrLimit}, {slices.Concat(times(10, 2), times(10, 3)), times(10, 6), impl.ErrNone}, {slices.Concat(times(11, 3), times(10, 2)), nil, impl.ErrLimit},
		{primes, times(10, 510510), impl.ErrNone}, {append(slices.Clone(primes), 19), nil, impl.ErrLimit}, {times(100, 2), nil, impl.ErrLimit}, {times(101, 2), nil, impl.ErrLimit}, {times(100, 999983), nil, impl.ErrLimit}, {times(5000, 2), nil, impl.ErrLimit},
	} {
		a, code := impl.FromPrimary(c.parts)
		if !sameAbelian(a, abelian(0, c.factors...)) || code != c.code {
			t.Errorf("FromPrimary(%v) = %v, %d, not %v, %d", c.parts, a, code, c.factors, c.code)
		}
	}
}

// A part out of its range is an error wherever it is, ahead of too many parts and of too great a product.
func TestFromPrimaryErrorsInOrder(t *testing.T) {
	for n := int64(-20); n <= 3000; n++ {
		want := int64(impl.ErrRange)
		if n > 1 && isPowerOf(primeUnder(max(n, 2)), n) {
			want = impl.ErrNone
		}
		if a, code := impl.FromPrimary([]int64{n}); code != want || code != impl.ErrNone && !sameAbelian(a, impl.Abelian{}) {
			t.Errorf("FromPrimary({%d}) = %v, %d", n, a, code)
		}
	}
	for _, bad := range []int64{math.MinInt64, -8, -2, -1, 0, 1, 6, 12, 994008, 999999, impl.MaxFactor, impl.MaxFactor + 1, 1000003, 1048576, 1594323, 1 << 40, 1 << 62, math.MaxInt64} {
		for _, before := range [][]int64{nil, {2}, {2, 3}, {999983, 999979}, times(11, 2), times(99, 2), times(100, 2), times(101, 3), times(300, 7)} {
			for _, parts := range [][]int64{append(slices.Clone(before), bad), append([]int64{bad}, before...), slices.Concat(before, []int64{bad}, before)} {
				if a, code := impl.FromPrimary(parts); !sameAbelian(a, impl.Abelian{}) || code != impl.ErrRange {
					t.Errorf("FromPrimary(%v) = %v, %d", parts, a, code)
				}
			}
		}
	}
}

func checkSum(t *testing.T, a impl.Abelian, b impl.Abelian) {
	t.Helper()
	powers := slices.Concat(partsByTrial(a.Factors), partsByTrial(b.Factors))
	want, wantCode := productByPrimes(powers, a.Rank+b.Rank)
	for _, pair := range [][2]impl.Abelian{{a, b}, {b, a}} {
		if sum, code := impl.SumAbelian(pair[0], pair[1]); !sameAbelian(sum, want) || code != wantCode {
			t.Fatalf("SumAbelian(%v, %v) = %v, %d, not %v, %d", pair[0], pair[1], sum, code, want, wantCode)
		}
	}
}

func TestSumAbelian(t *testing.T) {
	s := &scatter{54}
	list := slices.Concat(smallAbelian(16, 2), extremeAbelian())
	for i, a := range list {
		for _, b := range list[i:] {
			checkSum(t, a, b)
		}
	}
	samples := sampleAbelian(s)
	for range 2000 {
		checkSum(t, samples[s.below(int64(len(samples)))], samples[s.below(int64(len(samples)))])
	}
}

func TestSumCases(t *testing.T) {
	for _, c := range []struct {
		a, b, sum impl.Abelian
		code      int64
	}{
		{abelian(0, 2), abelian(1, 3), abelian(1, 6), impl.ErrNone}, {abelian(0), abelian(0), abelian(0), impl.ErrNone}, {abelian(3, 2, 4), abelian(0), abelian(3, 2, 4), impl.ErrNone}, {abelian(0, 4), abelian(0, 6), abelian(0, 2, 12), impl.ErrNone},
		{abelian(5), abelian(5), abelian(10), impl.ErrNone}, {abelian(5), abelian(6), impl.Abelian{}, impl.ErrLimit}, {abelian(5), abelian(0, 2, 2, 2, 2, 2), abelian(5, 2, 2, 2, 2, 2), impl.ErrNone}, {abelian(6), abelian(0, 2, 2, 2, 2, 2), impl.Abelian{}, impl.ErrLimit},
		{abelian(0, times(10, 2)...), abelian(0, times(10, 3)...), abelian(0, times(10, 6)...), impl.ErrNone}, {abelian(0, times(10, 2)...), abelian(0, 4), impl.Abelian{}, impl.ErrLimit}, {abelian(0, times(10, 2)...), abelian(1), impl.Abelian{}, impl.ErrLimit}, {abelian(10), abelian(10), impl.Abelian{}, impl.ErrLimit},
		{abelian(0, 64), abelian(0, 15625), abelian(0, impl.MaxFactor), impl.ErrNone}, {abelian(0, 101), abelian(0, 9901), impl.Abelian{}, impl.ErrLimit}, {abelian(0, 999983), abelian(0, 999979), impl.Abelian{}, impl.ErrLimit}, {abelian(0, impl.MaxFactor), abelian(0, impl.MaxFactor), abelian(0, impl.MaxFactor, impl.MaxFactor), impl.ErrNone},
		{abelian(0, 999979, 999979), abelian(0, times(8, 999983)...), impl.Abelian{}, impl.ErrLimit}, {abelian(4, 999983), abelian(5, 2), impl.Abelian{}, impl.ErrLimit},
	} {
		if sum, code := impl.SumAbelian(c.a, c.b); !sameAbelian(sum, c.sum) || code != c.code {
			t.Errorf("SumAbelian(%v, %v) = %v, %d, not %v, %d", c.a, c.b, sum, code, c.sum, c.code)
		}
	}
}

func isKilled(k int64, x []int64, factors []int64) bool {
	for i, entry := range x {
		if k*entry%factors[i] != 0 {
			return false
		}
	}
	return true
}

func countKilled(k int64, factors []int64) int64 {
	count := int64(0)
	for _, x := range vectorsBelow(factors) {
		if isKilled(k, x, factors) {
			count++
		}
	}
	return count
}

// limited is the result of a function that counts.
func limited(n *big.Int) (int64, int64) {
	if n.Cmp(big.NewInt(impl.MaxCount)) > 0 {
		return 0, impl.ErrLimit
	}
	return n.Int64(), impl.ErrNone
}

func productOf(numbers []int64) *big.Int {
	product := big.NewInt(1)
	for _, number := range numbers {
		product.Mul(product, big.NewInt(number))
	}
	return product
}

func checkNumber(t *testing.T, name string, number int64, code int64, want int64, wantCode int64) {
	t.Helper()
	if number != want || code != wantCode {
		t.Fatalf("%s = %d, %d, not %d, %d", name, number, code, want, wantCode)
	}
}

// Orders, exponents, solutions and subgroups of prime order, by looking at every element of finite order.
func TestSmallGroupsBySearch(t *testing.T) {
	for _, a := range smallAbelian(72, 1) {
		elements := int64(len(vectorsBelow(a.Factors)))
		exponent := int64(1)
		for countKilled(exponent, a.Factors) < elements {
			exponent++
		}
		for k := int64(1); k <= exponent+1; k++ {
			count, code := impl.CountSolutions(a, k)
			checkNumber(t, fmt.Sprint("CountSolutions", a, k), count, code, countKilled(k, a.Factors), impl.ErrNone)
			if isPrimeByTrial(k) {
				count, code := impl.CountPrimeSubgroups(a, k)
				checkNumber(t, fmt.Sprint("CountPrimeSubgroups", a, k), count, code, (countKilled(k, a.Factors)-1)/(k-1), impl.ErrNone)
			}
		}
		if a.Rank > 0 {
			elements, exponent = 0, 0
		}
		order, code := impl.AbelianOrder(a)
		checkNumber(t, fmt.Sprint("AbelianOrder", a), order, code, elements, impl.ErrNone)
		least, code := impl.ExponentOf(a)
		checkNumber(t, fmt.Sprint("ExponentOf", a), least, code, exponent, impl.ErrNone)
	}
}

// checkCounts counts by primary parts, and takes the least common multiple of all factors for the exponent.
func checkCounts(t *testing.T, a impl.Abelian, k int64) {
	t.Helper()
	want := big.NewInt(1)
	for _, part := range partsByTrial(a.Factors) {
		want.Mul(want, big.NewInt(gcdOf(part, k)))
	}
	limit, limitCode := limited(want)
	count, code := impl.CountSolutions(a, k)
	checkNumber(t, fmt.Sprint("CountSolutions", a, k), count, code, limit, limitCode)
	order, exponent, orderCode := int64(0), int64(0), int64(impl.ErrNone)
	if a.Rank == 0 {
		order, orderCode = limited(productOf(partsByTrial(a.Factors)))
		exponent = 1
		for _, factor := range a.Factors {
			exponent = exponent / gcdOf(exponent, factor) * factor
		}
	}
	count, code = impl.AbelianOrder(a)
	checkNumber(t, fmt.Sprint("AbelianOrder", a), count, code, order, orderCode)
	count, code = impl.ExponentOf(a)
	checkNumber(t, fmt.Sprint("ExponentOf", a), count, code, exponent, impl.ErrNone)
}

func TestCountsUpToMaxCount(t *testing.T) {
	s := &scatter{55}
	for _, a := range append(sampleAbelian(s), extremeAbelian()...) {
		for _, k := range []int64{1, 2, 3, 6, 10, 60, 997, 720720, 999983, impl.MaxFactor, 1 + s.below(impl.MaxFactor)} {
			checkCounts(t, a, k)
		}
		for _, factor := range a.Factors {
			checkCounts(t, a, factor)
			checkCounts(t, a, factor/primeUnder(factor))
		}
	}
}

func TestCountCases(t *testing.T) {
	above := abelian(0, 3, 9, 9, 9, 9, 18, 3906, 722610) // no order is closer to MaxCount from above
	for _, c := range []struct {
		a                             impl.Abelian
		order, orderCode, exponent, k int64
		solutions, solutionsCode      int64
	}{
		{abelian(0), 1, 0, 1, 5, 1, 0}, {abelian(2), 0, 0, 0, 5, 1, 0}, {abelian(0, 6, 12), 72, 0, 12, 4, 8, 0}, {abelian(1, 6, 12), 0, 0, 0, 12, 72, 0}, {abelian(0, 6, 12), 72, 0, 12, 5, 1, 0},
		{abelian(0, times(5, 1000)...), impl.MaxCount, 0, 1000, impl.MaxFactor, impl.MaxCount, 0}, {abelian(0, 1000, impl.MaxFactor, impl.MaxFactor), impl.MaxCount, 0, impl.MaxFactor, impl.MaxFactor, impl.MaxCount, 0}, {abelian(0, 10, 10, 10, impl.MaxFactor, impl.MaxFactor), impl.MaxCount, 0, impl.MaxFactor, 1, 1, 0},
		{above, 0, impl.ErrLimit, 722610, 722610, 0, impl.ErrLimit}, {above, 0, impl.ErrLimit, 722610, 3, 6561, 0}, {abelian(1, above.Factors...), 0, 0, 0, 722610, 0, impl.ErrLimit}, {abelian(0, times(10, impl.MaxFactor)...), 0, impl.ErrLimit, impl.MaxFactor, 31, 1, 0},
		{abelian(1, times(9, impl.MaxFactor)...), 0, 0, 0, 10, 1000000000, 0}, {abelian(0, times(10, impl.MaxFactor)...), 0, impl.ErrLimit, impl.MaxFactor, 32, 0, impl.ErrLimit}, {abelian(0, times(3, 100000)...), impl.MaxCount, 0, 100000, 100000, impl.MaxCount, 0},
	} {
		order, code := impl.AbelianOrder(c.a)
		checkNumber(t, fmt.Sprint("AbelianOrder", c.a), order, code, c.order, c.orderCode)
		exponent, code := impl.ExponentOf(c.a)
		checkNumber(t, fmt.Sprint("ExponentOf", c.a), exponent, code, c.exponent, impl.ErrNone)
		count, code := impl.CountSolutions(c.a, c.k)
		checkNumber(t, fmt.Sprint("CountSolutions", c.a, c.k), count, code, c.solutions, c.solutionsCode)
	}
}

func numberBelow(x []int64, factors []int64) int {
	number := int64(0)
	for i, factor := range factors {
		number = number*factor + x[i]%factor
	}
	return int(number)
}

// additionTable is for elements by their places in vectorsBelow.
func additionTable(factors []int64) [][]int {
	var sums [][]int
	elements := vectorsBelow(factors)
	for _, x := range elements {
		var row []int
		for _, y := range elements {
			sum := slices.Clone(x)
			for i := range sum {
				sum[i] += y[i]
			}
			row = append(row, numberBelow(sum, factors))
		}
		sums = append(sums, row)
	}
	return sums
}

// Among all functions from one group to another one, those that map sums to sums.
func TestHomsAmongAllFunctions(t *testing.T) {
	for _, a := range smallAbelian(6, 0) {
		for _, b := range smallAbelian(6, 0) {
			from, to := additionTable(a.Factors), additionTable(b.Factors)
			if powerOf(int64(len(to)), len(from)) > 5000 {
				continue
			}
			want := int64(0)
			for _, images := range allVectors(int64(len(to)), len(from)) {
				if areSumsMapped(from, to, images) {
					want++
				}
			}
			for rank := range int64(4) {
				count, code := impl.CountAbelianHoms(abelian(rank, a.Factors...), b)
				checkNumber(t, fmt.Sprint("CountAbelianHoms", rank, a, b), count, code, want, impl.ErrNone)
				want *= int64(len(to))
			}
		}
	}
}

func areSumsMapped(from [][]int, to [][]int, images []int64) bool {
	for x := range from {
		for y := range from {
			if images[from[x][y]] != int64(to[images[x]][images[y]]) {
				return false
			}
		}
	}
	return true
}

// The image of a generator of order k is any element that k kills, and the one of a generator of infinite order any element.
func homsByParts(a impl.Abelian, b impl.Abelian) *big.Int {
	count := big.NewInt(1)
	for _, part := range partsByTrial(b.Factors) {
		for _, from := range partsByTrial(a.Factors) {
			count.Mul(count, big.NewInt(gcdOf(from, part)))
		}
		for range a.Rank {
			count.Mul(count, big.NewInt(part))
		}
	}
	return count
}

func checkHoms(t *testing.T, a impl.Abelian, b impl.Abelian) {
	t.Helper()
	want, wantCode := int64(0), int64(impl.ErrState)
	if b.Rank == 0 {
		want, wantCode = limited(homsByParts(a, b))
	}
	count, code := impl.CountAbelianHoms(a, b)
	checkNumber(t, fmt.Sprint("CountAbelianHoms", a, b), count, code, want, wantCode)
}

func TestCountAbelianHoms(t *testing.T) {
	s := &scatter{56}
	list := slices.Concat(smallAbelian(16, 2), extremeAbelian())
	for _, a := range list {
		for _, b := range list {
			checkHoms(t, a, b)
		}
	}
	samples := sampleAbelian(s)
	for range 3000 {
		b := samples[s.below(int64(len(samples)))]
		checkHoms(t, samples[s.below(int64(len(samples)))], b)
		checkHoms(t, samples[s.below(int64(len(samples)))], abelian(0, b.Factors...))
	}
}

func TestHomCases(t *testing.T) {
	most := abelian(0, times(10, impl.MaxFactor)...)
	for _, c := range []struct {
		a, b        impl.Abelian
		count, code int64
	}{
		{abelian(1, 4), abelian(0, 6), 12, impl.ErrNone}, {abelian(0), abelian(0), 1, impl.ErrNone}, {abelian(10), abelian(0), 1, impl.ErrNone}, {abelian(0), most, 1, impl.ErrNone}, {abelian(0, times(10, 999983)...), most, 1, impl.ErrNone},
		{abelian(5), abelian(0, 1000), impl.MaxCount, impl.ErrNone}, {abelian(3), abelian(0, 100, 1000), impl.MaxCount, impl.ErrNone}, {abelian(1), most, 0, impl.ErrLimit}, {abelian(10), abelian(0, 2), 1024, impl.ErrNone}, {abelian(10), abelian(0, 32), 0, impl.ErrLimit}, {abelian(10), abelian(0, 31), 819628286980801, impl.ErrNone},
		{abelian(0, times(10, 2)...), abelian(0, times(4, 2)...), 1 << 40, impl.ErrNone}, {abelian(0, times(10, 2)...), abelian(0, times(5, 2)...), 0, impl.ErrLimit}, {abelian(0, times(7, 2)...), abelian(0, times(7, 4)...), 1 << 49, impl.ErrNone}, {abelian(0, 3, 9, 9, 9, 9, 18, 3906, 722610), abelian(0, 722610), 0, impl.ErrLimit},
		{abelian(0), abelian(1), 0, impl.ErrState}, {abelian(10), abelian(10), 0, impl.ErrState}, {abelian(10), abelian(1, times(9, impl.MaxFactor)...), 0, impl.ErrState},
	} {
		count, code := impl.CountAbelianHoms(c.a, c.b)
		checkNumber(t, fmt.Sprint("CountAbelianHoms", c.a, c.b), count, code, c.count, c.code)
	}
}

// quotientBySearch goes from generator to generator of a and keeps the subgroups of b, as sets of bits, that some images of these generate.
func quotientBySearch(a impl.Abelian, b impl.Abelian) bool {
	elements, sums := vectorsBelow(b.Factors), additionTable(b.Factors)
	reached := map[uint64]bool{1: true}
	for _, order := range append(slices.Clone(a.Factors), make([]int64, a.Rank)...) {
		next := map[uint64]bool{}
		for subgroup := range reached {
			for x := range elements {
				if isKilled(order, elements[x], b.Factors) {
					next[joined(subgroup, x, sums)] = true
				}
			}
		}
		reached = next
	}
	return reached[1<<len(elements)-1]
}

// joined is the set of the sums of an element of the subgroup and a multiple of x.
func joined(subgroup uint64, x int, sums [][]int) uint64 {
	set := subgroup
	for {
		larger := set
		for y := range sums {
			if set>>y&1 == 1 {
				larger |= 1 << sums[y][x]
			}
		}
		if larger == set {
			return set
		}
		set = larger
	}
}

func checkQuotient(t *testing.T, a impl.Abelian, b impl.Abelian, want bool) {
	t.Helper()
	if has, code := impl.HasAbelianQuotient(a, b); has != want || code != impl.ErrNone {
		t.Fatalf("HasAbelianQuotient(%v, %v) = %v, %d", a, b, has, code)
	}
}

func TestSmallQuotientsBySearch(t *testing.T) {
	for _, a := range append(smallAbelian(16, 2), smallAbelian(36, 0)...) {
		for _, b := range append(smallAbelian(16, 0), abelian(0, 2, 12), abelian(0, 2, 2, 6), abelian(0, 3, 9), abelian(0, 2, 2, 2, 4)) {
			checkQuotient(t, a, b, quotientBySearch(a, b))
		}
	}
}

// countDivisible counts the parts that have a quotient of order q, a power of a prime.
func countDivisible(a impl.Abelian, q int64) int64 {
	count := a.Rank
	for _, factor := range a.Factors {
		if factor%q == 0 {
			count++
		}
	}
	return count
}

// quotientByPowers compares, for each power q of a prime p, the ranks of q/p times the groups modulo q times them.
func quotientByPowers(a impl.Abelian, b impl.Abelian) bool {
	for _, part := range partsByTrial(b.Factors) {
		for q := primeUnder(part); q <= part; q *= primeUnder(part) {
			if countDivisible(b, q) > countDivisible(a, q) {
				return false
			}
		}
	}
	return a.Rank >= b.Rank
}

func TestHasAbelianQuotient(t *testing.T) {
	s := &scatter{57}
	list := slices.Concat(smallAbelian(32, 2), extremeAbelian())
	for _, a := range list {
		checkQuotient(t, a, a, true)
		for _, b := range list {
			checkQuotient(t, a, b, quotientByPowers(a, b))
		}
	}
	samples := sampleAbelian(s)
	for range 3000 {
		a, b := samples[s.below(int64(len(samples)))], samples[s.below(int64(len(samples)))]
		checkQuotient(t, a, b, quotientByPowers(a, b))
		if sum, code := impl.SumAbelian(a, b); code == impl.ErrNone {
			checkQuotient(t, sum, a, true)
			checkQuotient(t, sum, b, true)
			checkQuotient(t, a, sum, len(b.Factors) == 0 && b.Rank == 0)
		}
	}
}

func TestQuotientCases(t *testing.T) {
	for _, c := range []struct {
		a, b impl.Abelian
		want bool
	}{
		{abelian(0, 6, 12), abelian(0, 2, 4), true}, {abelian(0, 6, 12), abelian(0, 4, 4), false}, {abelian(0), abelian(0), true}, {abelian(0), abelian(0, 2), false}, {abelian(0, 2), abelian(0), true}, {abelian(1), abelian(0, impl.MaxFactor), true}, {abelian(1), abelian(1), true}, {abelian(1), abelian(1, 2), false},
		{abelian(2), abelian(1, 2), true}, {abelian(1, 2), abelian(0, 2, 4), true}, {abelian(1, 2), abelian(0, 4, 4), false}, {abelian(0, 4), abelian(1), false}, {abelian(0, times(10, impl.MaxFactor)...), abelian(1), false}, {abelian(0, 2, 12), abelian(0, 12), true}, {abelian(0, 2, 12), abelian(0, 2, 2), true}, {abelian(0, 12), abelian(0, 2, 2), false},
		{abelian(0, 2, 2), abelian(0, 4), false}, {abelian(0, 8), abelian(0, 4), true}, {abelian(0, 2, 6), abelian(0, 3), true}, {abelian(0, 2, 6), abelian(0, 3, 3), false}, {abelian(10), abelian(0, times(10, impl.MaxFactor)...), true}, {abelian(9), abelian(0, times(10, 2)...), false}, {abelian(10), abelian(10), true}, {abelian(1, 4, 4), abelian(0, 2, 2, 6), true}, {abelian(1, 4, 4), abelian(1, 2, 6), false},
	} {
		checkQuotient(t, c.a, c.b, c.want)
	}
}

// solutionsModulo counts the lists modulo n whose products with all rows are 0: the homomorphisms into a cyclic group of order n.
func solutionsModulo(a impl.Table, n int64) int64 {
	count := int64(0)
	for _, x := range allVectors(n, int(a.Columns)) {
		if !slices.ContainsFunc(a.Rows, func(row []int64) bool { return scalarProduct(n, x, row) != 0 }) {
			count++
		}
	}
	return count
}

// presentedByMinors follows the definition of the invariant factors.
func presentedByMinors(a impl.Table) (impl.Abelian, int64) {
	group := abelian(a.Columns)
	for k, before := 1, int64(1); k <= int(a.Columns); k++ {
		divisor := divisorByMinors(a.Rows, a.Columns, k)
		if divisor == 0 {
			break
		}
		if group.Rank--; divisor > before {
			group.Factors = append(group.Factors, divisor/before)
		}
		before = divisor
	}
	if len(group.Factors) > 0 && slices.Max(group.Factors) > impl.MaxFactor {
		return impl.Abelian{}, impl.ErrLimit
	}
	return group, impl.ErrNone
}

// checkPresented has the guarantee, too: the order is the index of the lattice.
func checkPresented(t *testing.T, s *scatter, a impl.Table) {
	t.Helper()
	want, wantCode := presentedByMinors(a)
	for _, same := range []impl.Table{a, s.regenerated(a)} {
		group, code := impl.AbelianOf(same)
		if !sameAbelian(group, want) || code != wantCode {
			t.Fatalf("AbelianOf(%v) = %v, %d, not %v, %d", same, group, code, want, wantCode)
		}
		if index, _ := impl.LatticeIndex(same); code == impl.ErrNone {
			order, code := impl.AbelianOrder(group)
			checkNumber(t, fmt.Sprint("AbelianOrder of what is presented by ", same), order, code, index, impl.ErrNone)
		}
	}
}

func TestAbelianOf(t *testing.T) {
	s := &scatter{58}
	for _, a := range allTables(s) {
		checkPresented(t, s, a)
	}
}

func TestPresentedGroupsHaveTheHomomorphismsOfTheTable(t *testing.T) {
	for i, a := range smallTables() {
		group, _ := impl.AbelianOf(a)
		for n := int64(2); n <= 6 && i%5 == 0; n++ {
			count, code := impl.CountAbelianHoms(group, abelian(0, n))
			checkNumber(t, fmt.Sprint("CountAbelianHoms of what is presented by ", a, n), count, code, solutionsModulo(a, n), impl.ErrNone)
		}
	}
}

// cyclicTable presents a cyclic group of order n, whose digits to the base 64 are in the last row.
func cyclicTable(n int64) impl.Table {
	return table(4, []int64{64, -1, 0, 0}, []int64{0, 64, -1, 0}, []int64{0, 0, 64, -1}, []int64{n % 64, n / 64 % 64, n / 4096 % 64, n / 262144})
}

func TestPresentedCases(t *testing.T) {
	for _, c := range []struct {
		a     impl.Table
		group impl.Abelian
		code  int64
	}{
		{table(3, []int64{2, 4, 0}, []int64{6, 8, 0}), abelian(1, 2, 4), impl.ErrNone}, {table(1), abelian(1), impl.ErrNone}, {table(4), abelian(4), impl.ErrNone}, {table(2, []int64{0, 0}), abelian(2), impl.ErrNone}, {unitTable(4), abelian(0), impl.ErrNone}, {table(1, []int64{-6}, []int64{4}), abelian(0, 2), impl.ErrNone},
		{diagonalTable(12, 4, 4, 6, 10, 15), abelian(0, 2, 30, 60), impl.ErrNone}, {diagonalTable(2, 3, 2, 3), abelian(1, 6), impl.ErrNone}, {table(4, []int64{6, -4, 0, 10}), abelian(3, 2), impl.ErrNone}, {diagonalTable(4, 4, 64, 64, 64, 64), abelian(0, 64, 64, 64, 64), impl.ErrNone}, {steepTables()[5], abelian(0, 64, 128, 128, 256), impl.ErrNone},
		{cyclicTable(1), abelian(0), impl.ErrNone}, {cyclicTable(0), abelian(1), impl.ErrNone}, {cyclicTable(360), abelian(0, 360), impl.ErrNone}, {cyclicTable(999999), abelian(0, 999999), impl.ErrNone}, {cyclicTable(impl.MaxFactor), abelian(0, impl.MaxFactor), impl.ErrNone},
		{cyclicTable(impl.MaxFactor + 1), impl.Abelian{}, impl.ErrLimit}, {cyclicTable(2 * impl.MaxFactor), impl.Abelian{}, impl.ErrLimit}, {cyclicTable(64*64*64*64 - 1), impl.Abelian{}, impl.ErrLimit}, {steepTables()[0], impl.Abelian{}, impl.ErrLimit},
	} {
		if group, code := impl.AbelianOf(c.a); !sameAbelian(group, c.group) || code != c.code {
			t.Errorf("AbelianOf(%v) = %v, %d, not %v, %d", c.a, group, code, c.group, c.code)
		}
	}
}

// remainderBy is for rows in Hermite form.
func remainderBy(form [][]int64, v []int64) []int64 {
	rest := slices.Clone(v)
	for _, row := range form {
		at := leadingIndex(row)
		quotient := (rest[at] - residueByAdding(rest[at], row[at])) / row[at]
		for j := range rest {
			rest[j] -= quotient * row[j]
		}
	}
	return rest
}

// multipleIsIn doubles and adds remainders, so that the numbers stay small.
func multipleIsIn(form [][]int64, k int64, v []int64) bool {
	sum := make([]int64, len(v))
	for double := remainderBy(form, v); k > 0; k /= 2 {
		for j := range sum {
			sum[j] += k % 2 * double[j]
			double[j] *= 2
		}
		sum, double = remainderBy(form, sum), remainderBy(form, double)
	}
	return isZero(sum)
}

// checkCosetOrder uses that the greatest divisor of minors that is not 0 kills all elements of finite order.
func checkCosetOrder(t *testing.T, a impl.Table, form [][]int64, killer int64, v []int64) {
	t.Helper()
	order, code := impl.CosetOrder(a, v)
	finite := multipleIsIn(form, killer, v)
	if code != impl.ErrNone || (order > 0) != finite || finite && !multipleIsIn(form, order, v) {
		t.Fatalf("CosetOrder(%v, %v) = %d, %d", a, v, order, code)
	}
	if order == 0 {
		return
	}
	for _, power := range powersByTrial(order) {
		if less := order / primeUnder(power); multipleIsIn(form, less, v) {
			t.Fatalf("CosetOrder(%v, %v) = %d, but %d is an order too", a, v, order, less)
		}
	}
}

func TestCosetOrder(t *testing.T) {
	s := &scatter{59}
	for _, a := range allTables(s) {
		form, _ := impl.HermiteForm(a)
		killer := int64(1)
		for k := 1; k <= int(a.Columns); k++ {
			killer = cmp.Or(divisorByMinors(a.Rows, a.Columns, k), killer)
		}
		for _, bound := range []int64{0, 1, 5, impl.MaxEntry} {
			checkCosetOrder(t, a, form, killer, s.table(1, int(a.Columns), bound).Rows[0])
		}
		for _, row := range a.Rows {
			checkCosetOrder(t, a, form, killer, row)
			half := slices.Clone(row)
			for j := range half {
				half[j] /= 2
			}
			checkCosetOrder(t, a, form, killer, half)
		}
	}
}

// The least multiple, by a search from 1 on.
func TestCosetOrderBySearch(t *testing.T) {
	s := &scatter{60}
	for at, a := range smallTables() {
		form, _ := impl.HermiteForm(a)
		index, _ := impl.LatticeIndex(a)
		if index == 0 || at%3 != 0 {
			continue
		}
		for _, bound := range []int64{2, impl.MaxEntry} {
			v := s.table(1, int(a.Columns), bound).Rows[0]
			want := int64(1)
			for sum := slices.Clone(v); !isZero(remainderBy(form, sum)); want++ {
				for j := range sum {
					sum[j] += v[j]
				}
			}
			order, code := impl.CosetOrder(a, v)
			checkNumber(t, fmt.Sprint("CosetOrder", a, v), order, code, want, impl.ErrNone)
		}
	}
}

func TestCosetOrderCases(t *testing.T) {
	a := table(2, []int64{2, 4}, []int64{6, 8})
	for _, c := range []struct {
		a     impl.Table
		v     []int64
		order int64
	}{
		{a, []int64{1, 1}, 4}, {a, []int64{0, 0}, 1}, {a, []int64{1, 0}, 2}, {a, []int64{0, 1}, 4}, {a, []int64{4, 4}, 1}, {a, []int64{-1, -1}, 4}, {table(1), []int64{0}, 1}, {table(1), []int64{1}, 0}, {table(1), []int64{-64}, 0}, {table(4), []int64{0, 0, 0, 0}, 1}, {table(4), []int64{0, 0, 0, 1}, 0},
		{table(2, []int64{2, 2}), []int64{1, 1}, 2}, {table(2, []int64{2, 2}), []int64{1, 0}, 0}, {table(2, []int64{2, 2}), []int64{-3, -3}, 2}, {table(3, []int64{0, 6, 0}), []int64{0, 4, 0}, 3}, {table(3, []int64{0, 6, 0}), []int64{0, 4, 1}, 0}, {table(3, []int64{0, 6, 0}), []int64{1, 4, 0}, 0}, {unitTable(4), []int64{64, -64, 63, 1}, 1},
		{cyclicTable(1 << 20), []int64{1, 0, 0, 0}, 1 << 20}, {cyclicTable(1 << 20), []int64{0, 0, 0, 1}, 4}, {cyclicTable(64*64*64*64 - 1), []int64{1, 0, 0, 0}, 64*64*64*64 - 1}, {steepTables()[5], []int64{1, 0, 0, 0}, 256}, {diagonalTable(4, 4, 61, 59, 53, 64), []int64{1, 1, 1, 1}, 61 * 59 * 53 * 64},
	} {
		order, code := impl.CosetOrder(c.a, c.v)
		checkNumber(t, fmt.Sprint("CosetOrder", c.a, c.v), order, code, c.order, impl.ErrNone)
	}
}

// countPartitions counts the lists of numbers up to most, in descending order, with this sum.
func countPartitions(sum int64, most int64) int {
	if sum == 0 {
		return 1
	}
	count := 0
	for first := int64(1); first <= min(sum, most); first++ {
		count += countPartitions(sum-first, first)
	}
	return count
}

func countByPartitions(n int64) int {
	count := 1
	for _, power := range powersByTrial(n) {
		exponent := int64(0)
		for p := primeUnder(power); power > 1; power /= p {
			exponent++
		}
		count *= countPartitions(exponent, exponent)
	}
	return count
}

func TestAllAbelianHasEachOnce(t *testing.T) {
	for n := int64(1); n <= 1000; n++ {
		list, code := impl.AllAbelian(n)
		if len(list) != countByPartitions(n) || code != impl.ErrNone {
			t.Fatalf("AllAbelian(%d) = %v, %d", n, list, code)
		}
		for i, a := range list {
			if !impl.IsAbelian(a) || a.Rank != 0 || productOf(a.Factors).Cmp(big.NewInt(n)) != 0 {
				t.Fatalf("AllAbelian(%d) has %v", n, a)
			}
			if i > 0 && slices.Compare(list[i-1].Factors, a.Factors) >= 0 {
				t.Fatalf("AllAbelian(%d) has %v ahead of %v", n, list[i-1], a)
			}
		}
	}
}

func TestAllAbelianCases(t *testing.T) {
	for n, want := range map[int64]string{1: "1", 2: "C2", 7: "C7", 8: "C2 x C2 x C2, C2 x C4, C8", 36: "C2 x C18, C3 x C12, C6 x C6, C36", 64: "C2 x C2 x C2 x C2 x C2 x C2, C2 x C2 x C2 x C2 x C4, C2 x C2 x C2 x C8, C2 x C2 x C4 x C4, C2 x C2 x C16, C2 x C4 x C8, C2 x C32, C4 x C4 x C4, C4 x C16, C8 x C8, C64", 997: "C997", 1000: "C2 x C2 x C250, C2 x C10 x C50, C2 x C500, C5 x C5 x C40, C5 x C10 x C20, C5 x C200, C10 x C10 x C10, C10 x C100, C1000"} {
		list, code := impl.AllAbelian(n)
		var texts []string
		for _, a := range list {
			text, _ := impl.AbelianText(a)
			texts = append(texts, text)
		}
		if got := strings.Join(texts, ", "); got != want || code != impl.ErrNone {
			t.Errorf("AllAbelian(%d) = %s, %d", n, got, code)
		}
	}
	for _, n := range []int64{math.MinInt64, -1000, -1, 0, 1001, 1024, impl.MaxFactor, math.MaxInt64} {
		if list, code := impl.AllAbelian(n); len(list) != 0 || code != impl.ErrRange {
			t.Errorf("AllAbelian(%d) = %v, %d", n, list, code)
		}
	}
}

// subgroupsByLines adds up the powers of p, one for each part that p divides.
func subgroupsByLines(a impl.Abelian, p int64) *big.Int {
	count, power := big.NewInt(0), big.NewInt(1)
	for _, part := range partsByTrial(a.Factors) {
		if primeUnder(part) == p {
			count.Add(count, power)
			power.Mul(power, big.NewInt(p))
		}
	}
	return count
}

func TestCountPrimeSubgroupsUpToMaxCount(t *testing.T) {
	s := &scatter{61}
	list := append(sampleAbelian(s), extremeAbelian()...)
	for p := int64(2); p <= 1000; p++ {
		if !isPrimeByTrial(p) {
			continue
		}
		for n := range impl.MaxParts + 1 {
			list = append(list[:len(list):len(list)], abelian(0, times(n, p)...), abelian(int64(impl.MaxParts-n), times(n, p)...), abelian(0, append(times(impl.MaxParts-n, 2*3), times(n, 6*p)...)...))
		}
	}
	for _, a := range list {
		for _, p := range []int64{2, 3, 5, 7, 43, 47, 73, 79, 137, 139, 313, 317, 991, 997, primeUnder(slices.Max(append(a.Factors, 2)))} {
			if p > 1000 {
				continue
			}
			want, wantCode := limited(subgroupsByLines(a, p))
			count, code := impl.CountPrimeSubgroups(a, p)
			checkNumber(t, fmt.Sprint("CountPrimeSubgroups", a, p), count, code, want, wantCode)
		}
	}
}

func TestPrimeSubgroupCases(t *testing.T) {
	for _, c := range []struct {
		a              impl.Abelian
		p, count, code int64
	}{
		{abelian(0, 6, 12), 2, 3, impl.ErrNone}, {abelian(0, 6, 12), 3, 4, impl.ErrNone}, {abelian(0, 6, 12), 5, 0, impl.ErrNone}, {abelian(0), 2, 0, impl.ErrNone}, {abelian(10), 2, 0, impl.ErrNone}, {abelian(3, 2, 6), 3, 1, impl.ErrNone}, {abelian(0, times(10, 2)...), 2, 1023, impl.ErrNone}, {abelian(0, 4, 4, 4), 2, 7, impl.ErrNone},
		{abelian(0, 994009), 997, 1, impl.ErrNone}, {abelian(0, times(6, 997)...), 997, 986078776318818, impl.ErrNone}, {abelian(0, times(7, 997)...), 997, 0, impl.ErrLimit}, {abelian(0, times(10, 997)...), 997, 0, impl.ErrLimit}, {abelian(0, times(10, 997)...), 991, 0, impl.ErrNone}, {abelian(0, times(10, 43)...), 43, 514559102697244, impl.ErrNone}, {abelian(0, times(10, 47)...), 47, 0, impl.ErrLimit},
		{abelian(0, 2), 1, 0, impl.ErrRange}, {abelian(0, 999983), 999983, 0, impl.ErrRange}, {abelian(0, 1009), 1009, 0, impl.ErrRange}, {abelian(0, times(10, 997)...), 998, 0, impl.ErrRange},
	} {
		count, code := impl.CountPrimeSubgroups(c.a, c.p)
		checkNumber(t, fmt.Sprint("CountPrimeSubgroups", c.a, c.p), count, code, c.count, c.code)
	}
	for p := int64(-10); p <= 1100; p++ {
		want := int64(impl.ErrRange)
		if isPrimeByTrial(p) && p <= 1000 {
			want = impl.ErrNone
		}
		count, code := impl.CountPrimeSubgroups(abelian(1), p)
		checkNumber(t, fmt.Sprint("CountPrimeSubgroups of Z, ", p), count, code, 0, want)
	}
}

var outsideFactors = []int64{math.MinInt64, -impl.MaxFactor, -2, -1, 0, impl.MaxFactor + 1, math.MaxInt64}

var outsideSubgroupOrders = []int64{math.MinInt64, -7, -2, -1, 0, 1, 4, 6, 9, 961, 1000, 1001, 1009, 999983, impl.MaxFactor, math.MaxInt64}

// What is no abelian group is an error ahead of a number out of its range and of a group with a rank.
func TestInvalidGroupsAreErrors(t *testing.T) {
	for _, bad := range invalidAbelian() {
		order, code := impl.AbelianOrder(bad)
		checkNumber(t, fmt.Sprint("AbelianOrder", bad), order, code, 0, impl.ErrInvalid)
		exponent, code := impl.ExponentOf(bad)
		checkNumber(t, fmt.Sprint("ExponentOf", bad), exponent, code, 0, impl.ErrInvalid)
		if text, code := impl.AbelianText(bad); text != "" || code != impl.ErrInvalid {
			t.Errorf("AbelianText(%v) = %q, %d", bad, text, code)
		}
		if parts, code := impl.PrimaryParts(bad); len(parts) != 0 || code != impl.ErrInvalid {
			t.Errorf("PrimaryParts(%v) = %v, %d", bad, parts, code)
		}
		for _, k := range append([]int64{1, 2, impl.MaxFactor}, outsideFactors...) {
			count, code := impl.CountSolutions(bad, k)
			checkNumber(t, fmt.Sprint("CountSolutions", bad, k), count, code, 0, impl.ErrInvalid)
		}
		for _, p := range append([]int64{2, 3, 997}, outsideSubgroupOrders...) {
			count, code := impl.CountPrimeSubgroups(bad, p)
			checkNumber(t, fmt.Sprint("CountPrimeSubgroups", bad, p), count, code, 0, impl.ErrInvalid)
		}
		for _, other := range []impl.Abelian{abelian(0), abelian(3), abelian(1, 2), abelian(0, 2, 4), abelian(10), abelian(0, times(10, impl.MaxFactor)...), bad} {
			checkInvalidPair(t, bad, other)
			checkInvalidPair(t, other, bad)
		}
	}
}

func checkInvalidPair(t *testing.T, a impl.Abelian, b impl.Abelian) {
	t.Helper()
	if sum, code := impl.SumAbelian(a, b); !sameAbelian(sum, impl.Abelian{}) || code != impl.ErrInvalid {
		t.Errorf("SumAbelian(%v, %v) = %v, %d", a, b, sum, code)
	}
	count, code := impl.CountAbelianHoms(a, b)
	checkNumber(t, fmt.Sprint("CountAbelianHoms", a, b), count, code, 0, impl.ErrInvalid)
	if has, code := impl.HasAbelianQuotient(a, b); has || code != impl.ErrInvalid {
		t.Errorf("HasAbelianQuotient(%v, %v) = %v, %d", a, b, has, code)
	}
}

// A number out of its range is an error ahead of a count beyond the limit.
func TestCountErrorsInOrder(t *testing.T) {
	for _, a := range append(extremeAbelian(), abelian(0), abelian(0, 6, 12), abelian(2, 6)) {
		for _, k := range outsideFactors {
			count, code := impl.CountSolutions(a, k)
			checkNumber(t, fmt.Sprint("CountSolutions", a, k), count, code, 0, impl.ErrRange)
		}
		for _, p := range outsideSubgroupOrders {
			count, code := impl.CountPrimeSubgroups(a, p)
			checkNumber(t, fmt.Sprint("CountPrimeSubgroups", a, p), count, code, 0, impl.ErrRange)
		}
	}
}

func checkOrderError(t *testing.T, a impl.Table, v []int64, want int64) {
	t.Helper()
	order, code := impl.CosetOrder(a, v)
	checkNumber(t, fmt.Sprint("CosetOrder", a, v), order, code, 0, want)
}

// What is no table is an error ahead of a list of another length, and that ahead of an entry out of its range.
func TestCosetErrorsInOrder(t *testing.T) {
	for _, bad := range invalidTables() {
		if group, code := impl.AbelianOf(bad); !sameAbelian(group, impl.Abelian{}) || code != impl.ErrInvalid {
			t.Errorf("AbelianOf(%v) = %v, %d", bad, group, code)
		}
		for _, v := range append([][]int64{nil, {0}, {65}, {0, 0}, {0, 65}, {0, 0, 0, 0}, {0, 0, 0, 0, 0}}, bad.Rows...) {
			checkOrderError(t, bad, v, impl.ErrInvalid)
		}
	}
	for _, a := range []impl.Table{table(1), unitTable(1), table(2), unitTable(2), table(4), unitTable(4), steepTables()[0]} {
		checkOrderError(t, a, nil, impl.ErrInvalid)
		for n := range int64(7) {
			want := int64(impl.ErrInvalid)
			if n == a.Columns {
				want = impl.ErrRange
			} else {
				checkOrderError(t, a, make([]int64, n), want)
			}
			for i := range 4 * n {
				v := make([]int64, n)
				v[i/4] = []int64{math.MinInt64, -impl.MaxEntry - 1, impl.MaxEntry + 1, math.MaxInt64}[i%4]
				checkOrderError(t, a, v, want)
			}
		}
	}
}

// rowResult lets the check of chapter 2 look at lists that belong together.
func rowResult(number int64, code int64, rows ...[]int64) (impl.Matrix, int64) {
	return matrix(number, 0, rows...), code
}

func checkAbelianMemory(t *testing.T, a impl.Abelian, b impl.Abelian, parts []int64) {
	t.Helper()
	first, second := roomyMatrix(matrix(0, 0, a.Factors)), roomyMatrix(matrix(0, 0, b.Factors))
	a.Factors, b.Factors, parts = first.Rows[0], second.Rows[0], roomy(parts)
	for name, call := range map[string]func() (impl.Matrix, int64){
		"PrimaryParts": func() (impl.Matrix, int64) {
			parts, code := impl.PrimaryParts(a)
			return rowResult(0, code, parts)
		},
		"FromPrimary": func() (impl.Matrix, int64) {
			group, code := impl.FromPrimary(parts)
			return rowResult(group.Rank, code, group.Factors)
		},
		"SumAbelian": func() (impl.Matrix, int64) {
			group, code := impl.SumAbelian(a, b)
			return rowResult(group.Rank, code, group.Factors)
		},
		"the double": func() (impl.Matrix, int64) {
			group, code := impl.SumAbelian(a, a)
			return rowResult(group.Rank, code, group.Factors)
		},
		"CountSolutions":      func() (impl.Matrix, int64) { return rowResult(impl.CountSolutions(a, 6)) },
		"CountAbelianHoms":    func() (impl.Matrix, int64) { return rowResult(impl.CountAbelianHoms(a, b)) },
		"AbelianOrder":        func() (impl.Matrix, int64) { return rowResult(impl.AbelianOrder(a)) },
		"ExponentOf":          func() (impl.Matrix, int64) { return rowResult(impl.ExponentOf(a)) },
		"CountPrimeSubgroups": func() (impl.Matrix, int64) { return rowResult(impl.CountPrimeSubgroups(a, 2)) },
		"the text and the tests": func() (impl.Matrix, int64) {
			text, code := impl.AbelianText(a)
			has, _ := impl.HasAbelianQuotient(a, b)
			return rowResult(int64(len(fmt.Sprint(text, has, impl.IsAbelian(b)))), code)
		},
	} {
		checkCallMemory(t, name, call, first, second, parts)
	}
}

func TestAbelianArgumentsStayAndResultsAreNew(t *testing.T) {
	s := &scatter{62}
	list := slices.Concat(smallAbelian(12, 1), sampleAbelian(s)[:60], extremeAbelian())
	for _, a := range list {
		for range 5 {
			b := list[s.below(int64(len(list)))]
			checkAbelianMemory(t, a, b, partsByTrial(b.Factors))
		}
	}
	for _, bad := range invalidAbelian() {
		checkAbelianMemory(t, bad, abelian(1, 2, 4), []int64{2, 6})
		checkAbelianMemory(t, abelian(0, 2, 4), bad, times(12, 2))
	}
}

func TestPresentedAndListedGroupsAreNew(t *testing.T) {
	s := &scatter{63}
	for _, a := range append(sampleTables(s), invalidTables()...) {
		m, v := roomyMatrix(matrix(0, a.Columns, a.Rows...)), roomy(s.table(1, max(0, min(5, int(a.Columns))), 5).Rows[0])
		checkCallMemory(t, "AbelianOf", func() (impl.Matrix, int64) {
			group, code := impl.AbelianOf(table(m.Columns, m.Rows...))
			return rowResult(group.Rank, code, group.Factors)
		}, m, m, v)
		checkCallMemory(t, "CosetOrder", func() (impl.Matrix, int64) { return rowResult(impl.CosetOrder(table(m.Columns, m.Rows...), v)) }, m, m, v)
	}
	for _, n := range []int64{0, 1, 2, 36, 512, 900, 1000, 1001} {
		checkCallMemory(t, "AllAbelian", func() (impl.Matrix, int64) {
			list, code := impl.AllAbelian(n)
			var rows [][]int64
			for _, a := range list {
				rows = append(rows, a.Factors)
			}
			return rowResult(int64(len(list)), code, rows...)
		}, matrix(0, 0), matrix(0, 0), []int64{n})
	}
	for _, text := range []string{"1", "Z", "C2 x C4 x Z", "C2 x C3"} {
		checkCallMemory(t, "ReadAbelian", func() (impl.Matrix, int64) {
			group, code := impl.ReadAbelian(text)
			return rowResult(group.Rank, code, group.Factors)
		}, matrix(0, 0), matrix(0, 0), nil)
	}
}
