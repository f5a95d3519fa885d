package tests

import (
	"math"
	"slices"
	"testing"

	"loop.example/g01076/impl"
)

var outsideNumbers = []int64{math.MinInt64, -impl.MaxNumber, -1, 0, impl.MaxNumber + 1, math.MaxInt64}

var outsideSigned = []int64{math.MinInt64, -impl.MaxNumber - 1, impl.MaxNumber + 1, math.MaxInt64}

var outsidePrimes = []int64{math.MinInt64, -7, -2, -1, 0, 1, 4, 6, 8, 9, 10, 11, 13, math.MaxInt64}

var anyIntegers = []int64{math.MinInt64, math.MinInt64 + 1, -impl.MaxNumber - 1, -999983, -7, -1, 0, 1, 2, 12, 999983, impl.MaxNumber, impl.MaxNumber + 1, math.MaxInt64 - 1, math.MaxInt64}

func isPrimeByTrial(n int64) bool {
	for d := int64(2); d*d <= n; d++ {
		if n%d == 0 {
			return false
		}
	}
	return n > 1
}

func divisorByTrial(a int64, b int64) int64 {
	for d := max(a, -a, b, -b); d > 0; d-- {
		if a%d == 0 && b%d == 0 {
			return d
		}
	}
	return 0
}

func residueByAdding(a int64, m int64) int64 {
	return (a%m + m) % m
}

func TestErrorCodesAndLimits(t *testing.T) {
	codes := []int64{impl.ErrNone, impl.ErrInvalid, impl.ErrRange, impl.ErrLimit, impl.ErrNotFound, impl.ErrState, impl.ErrSyntax}
	if !slices.Equal(codes, []int64{0, 1, 2, 3, 4, 5, 6}) {
		t.Errorf("the error codes are %v", codes)
	}
	if impl.MaxNumber != 1000000 || impl.MaxPrime != 7 {
		t.Errorf("the limits are %d and %d", impl.MaxNumber, impl.MaxPrime)
	}
}

func TestGroupPrimes(t *testing.T) {
	for n := int64(-100); n <= 1000; n++ {
		if want := isPrimeByTrial(n) && n < 8; impl.IsGroupPrime(n) != want {
			t.Errorf("IsGroupPrime(%d) = %v", n, !want)
		}
	}
	for _, n := range outsidePrimes {
		if impl.IsGroupPrime(n) {
			t.Errorf("IsGroupPrime(%d) is true", n)
		}
	}
}

// leastDivisors is a sieve: the least prime that divides each number up to MaxNumber.
func leastDivisors() []int64 {
	least := make([]int64, impl.MaxNumber+1)
	for p := int64(2); p <= impl.MaxNumber; p++ {
		if least[p] != 0 {
			continue
		}
		for n := p; n <= impl.MaxNumber; n += p {
			if least[n] == 0 {
				least[n] = p
			}
		}
	}
	return least
}

func TestFactorizeMultipliesToEveryNumber(t *testing.T) {
	least := leastDivisors()
	for n := int64(1); n <= impl.MaxNumber; n++ {
		primes, exponents, code := impl.Factorize(n)
		if len(primes) != len(exponents) || code != impl.ErrNone {
			t.Fatalf("Factorize(%d) = %v, %v, %d", n, primes, exponents, code)
		}
		product, before := int64(1), int64(1)
		for i, p := range primes {
			if p <= before || least[p] != p || exponents[i] < 1 {
				t.Fatalf("Factorize(%d) = %v, %v", n, primes, exponents)
			}
			before = p
			for range exponents[i] {
				product *= p
			}
		}
		if product != n {
			t.Fatalf("Factorize(%d) = %v, %v, which multiply to %d", n, primes, exponents, product)
		}
	}
}

func TestFactorizeCases(t *testing.T) {
	cases := []struct {
		n                 int64
		primes, exponents []int64
	}{
		{1, nil, nil},
		{2, []int64{2}, []int64{1}},
		{360, []int64{2, 3, 5}, []int64{3, 2, 1}},
		{524288, []int64{2}, []int64{19}},
		{994009, []int64{997}, []int64{2}},
		{999983, []int64{999983}, []int64{1}},
		{999999, []int64{3, 7, 11, 13, 37}, []int64{3, 1, 1, 1, 1}},
		{impl.MaxNumber, []int64{2, 5}, []int64{6, 6}},
	}
	for _, c := range cases {
		primes, exponents, code := impl.Factorize(c.n)
		if !slices.Equal(primes, c.primes) || !slices.Equal(exponents, c.exponents) || code != impl.ErrNone {
			t.Errorf("Factorize(%d) = %v, %v, %d", c.n, primes, exponents, code)
		}
	}
	for _, n := range outsideNumbers {
		if primes, exponents, code := impl.Factorize(n); len(primes) != 0 || len(exponents) != 0 || code != impl.ErrRange {
			t.Errorf("Factorize(%d) = %v, %v, %d", n, primes, exponents, code)
		}
	}
}

// A result that was kept, or two lists with common memory, would show in the second call or in the other list.
func TestFactorizeReturnsNewLists(t *testing.T) {
	primes, exponents, _ := impl.Factorize(360)
	clear(primes[:cap(primes)])
	if !slices.Equal(exponents, []int64{3, 2, 1}) {
		t.Errorf("the exponents became %v", exponents)
	}
	clear(exponents[:cap(exponents)])
	primes, exponents, _ = impl.Factorize(360)
	if !slices.Equal(primes, []int64{2, 3, 5}) || !slices.Equal(exponents, []int64{3, 2, 1}) {
		t.Errorf("the second Factorize(360) = %v, %v", primes, exponents)
	}
}

func TestPrimePart(t *testing.T) {
	for _, p := range []int64{2, 3, 5, 7} {
		for _, n := range append([]int64{524288, 531441, 390625, 823543, 999983, 999999, impl.MaxNumber}, numbersTo(3000)...) {
			want := int64(1)
			for n%(want*p) == 0 {
				want *= p
			}
			if part, code := impl.PrimePart(n, p); part != want || code != impl.ErrNone {
				t.Errorf("PrimePart(%d, %d) = %d, %d", n, p, part, code)
			}
		}
		for _, n := range outsideNumbers {
			if part, code := impl.PrimePart(n, p); part != 0 || code != impl.ErrRange {
				t.Errorf("PrimePart(%d, %d) = %d, %d", n, p, part, code)
			}
		}
	}
	for _, p := range outsidePrimes {
		for _, n := range append([]int64{1, 360, impl.MaxNumber}, outsideNumbers...) {
			if part, code := impl.PrimePart(n, p); part != 0 || code != impl.ErrRange {
				t.Errorf("PrimePart(%d, %d) = %d, %d", n, p, part, code)
			}
		}
	}
}

func numbersTo(n int64) []int64 {
	var list []int64
	for i := int64(1); i <= n; i++ {
		list = append(list, i)
	}
	return list
}

func TestModPowerIsRepeatedMultiplication(t *testing.T) {
	bases := append(slices.Clone(anyIntegers), -5, -4, -3, 3, 4, 5, 10)
	moduli := append(numbersTo(40), 999983, 999999, impl.MaxNumber)
	for _, m := range moduli {
		for _, base := range bases {
			want := residueByAdding(1, m)
			for e := range int64(70) {
				if power, code := impl.ModPower(base, e, m); power != want || code != impl.ErrNone {
					t.Fatalf("ModPower(%d, %d, %d) = %d, %d, not %d", base, e, m, power, code, want)
				}
				want = want * residueByAdding(base, m) % m
			}
		}
	}
}

func TestModPowerCases(t *testing.T) {
	cases := []struct{ base, exponent, m, want int64 }{
		{-3, 3, 7, 1},
		{0, 0, 1, 0},
		{0, 0, 5, 1},
		{0, 1, 5, 0},
		{5, 0, 1, 0},
		{math.MinInt64, 0, 2, 1},
		{math.MinInt64, 1, 1000, 192},
		{math.MaxInt64, 1, 1000, 807},
		{999999, impl.MaxNumber, impl.MaxNumber, 1},
		{999999, 999999, impl.MaxNumber, 999999},
		{2, 999982, 999983, 1},
		{2, 999983, 999983, 2},
		{-1, impl.MaxNumber, 3, 1},
	}
	for _, c := range cases {
		if power, code := impl.ModPower(c.base, c.exponent, c.m); power != c.want || code != impl.ErrNone {
			t.Errorf("ModPower(%d, %d, %d) = %d, %d, not %d", c.base, c.exponent, c.m, power, code, c.want)
		}
	}
	for _, base := range anyIntegers {
		for _, m := range outsideNumbers {
			if power, code := impl.ModPower(base, 1, m); power != 0 || code != impl.ErrRange {
				t.Errorf("ModPower(%d, 1, %d) = %d, %d", base, m, power, code)
			}
		}
		for _, e := range []int64{math.MinInt64, -1, impl.MaxNumber + 1, math.MaxInt64} {
			if power, code := impl.ModPower(base, e, 7); power != 0 || code != impl.ErrRange {
				t.Errorf("ModPower(%d, %d, 7) = %d, %d", base, e, power, code)
			}
		}
	}
}

// orderByTrial is 0 if no power of a with an exponent from 1 to m is 1.
func orderByTrial(a int64, m int64) int64 {
	power := residueByAdding(1, m)
	for k := int64(1); k <= m; k++ {
		power = power * residueByAdding(a, m) % m
		if power == residueByAdding(1, m) {
			return k
		}
	}
	return 0
}

// checkUnit holds the inverse and the order of a modulo m against each other and against a search.
func checkUnit(t *testing.T, a int64, m int64) {
	t.Helper()
	want := orderByTrial(a, m)
	order, orderCode := impl.UnitOrder(a, m)
	inverse, inverseCode := impl.ModInverse(a, m)
	if want == 0 {
		if order != 0 || orderCode != impl.ErrNotFound || inverse != 0 || inverseCode != impl.ErrNotFound {
			t.Errorf("without an order, %d modulo %d has the order %d, %d and the inverse %d, %d", a, m, order, orderCode, inverse, inverseCode)
		}
		return
	}
	if order != want || orderCode != impl.ErrNone {
		t.Errorf("UnitOrder(%d, %d) = %d, %d, not %d", a, m, order, orderCode, want)
	}
	if inverse < 0 || inverse >= m || inverseCode != impl.ErrNone || residueByAdding(a, m)*inverse%m != residueByAdding(1, m) {
		t.Errorf("ModInverse(%d, %d) = %d, %d", a, m, inverse, inverseCode)
	}
}

func TestInverseExistsExactlyIfOrderDoes(t *testing.T) {
	for m := int64(1); m <= 130; m++ {
		for a := -m - 1; a <= 2*m; a++ {
			checkUnit(t, a, m)
		}
	}
	for _, m := range []int64{524288, 531441, 720720, 994009, 999983, 999999, impl.MaxNumber} {
		for _, a := range append([]int64{3, 5, 11, 13, m - 1, m, m + 1}, anyIntegers...) {
			checkUnit(t, a, m)
		}
	}
	for _, a := range anyIntegers {
		for m := int64(1); m <= 12; m++ {
			checkUnit(t, a, m)
		}
	}
}

func TestUnitCases(t *testing.T) {
	for _, c := range []struct{ a, m, inverse, order int64 }{
		{3, 7, 5, 6}, {0, 1, 0, 1}, {9, 1, 0, 1}, {-1, 1, 0, 1}, {1, 2, 1, 1}, {-3, 7, 2, 3},
		{999999, impl.MaxNumber, 999999, 2}, {5, 999983, 599990, 999982},
	} {
		if inverse, code := impl.ModInverse(c.a, c.m); inverse != c.inverse || code != impl.ErrNone {
			t.Errorf("ModInverse(%d, %d) = %d, %d", c.a, c.m, inverse, code)
		}
		if order, code := impl.UnitOrder(c.a, c.m); order != c.order || code != impl.ErrNone {
			t.Errorf("UnitOrder(%d, %d) = %d, %d", c.a, c.m, order, code)
		}
	}
}

// A modulus out of range is an error ahead of a number without an inverse.
func TestUnitErrors(t *testing.T) {
	for _, a := range anyIntegers {
		for _, m := range outsideNumbers {
			if inverse, code := impl.ModInverse(a, m); inverse != 0 || code != impl.ErrRange {
				t.Errorf("ModInverse(%d, %d) = %d, %d", a, m, inverse, code)
			}
			if order, code := impl.UnitOrder(a, m); order != 0 || code != impl.ErrRange {
				t.Errorf("UnitOrder(%d, %d) = %d, %d", a, m, order, code)
			}
		}
	}
	for _, c := range [][2]int64{{0, 2}, {2, 4}, {-6, 9}, {0, impl.MaxNumber}, {10, impl.MaxNumber}} {
		if inverse, code := impl.ModInverse(c[0], c[1]); inverse != 0 || code != impl.ErrNotFound {
			t.Errorf("ModInverse(%d, %d) = %d, %d", c[0], c[1], inverse, code)
		}
		if order, code := impl.UnitOrder(c[0], c[1]); order != 0 || code != impl.ErrNotFound {
			t.Errorf("UnitOrder(%d, %d) = %d, %d", c[0], c[1], order, code)
		}
	}
}

func TestBezoutTakesTheLeastCoefficient(t *testing.T) {
	for a := int64(-45); a <= 45; a++ {
		for b := int64(-45); b <= 45; b++ {
			if b == 0 {
				continue
			}
			want, wantX := divisorByTrial(a, b), int64(0)
			for (want-a*wantX)%b != 0 {
				wantX++
			}
			g, x, y, code := impl.Bezout(a, b)
			if g != want || x != wantX || y != (want-a*wantX)/b || code != impl.ErrNone {
				t.Fatalf("Bezout(%d, %d) = %d, %d, %d, %d", a, b, g, x, y, code)
			}
		}
	}
}

func TestBezoutCases(t *testing.T) {
	for _, c := range []struct{ a, b, g, x, y int64 }{
		{12, 18, 6, 2, -1}, {7, 3, 1, 1, -2}, {-12, 18, 6, 1, 1}, {12, -18, 6, 2, 1}, {-12, -18, 6, 1, -1},
		{0, 0, 0, 0, 0}, {4, 0, 4, 1, 0}, {-4, 0, 4, -1, 0}, {0, 5, 5, 0, 1}, {0, -5, 5, 0, -1},
		{impl.MaxNumber, 0, impl.MaxNumber, 1, 0}, {-impl.MaxNumber, 0, impl.MaxNumber, -1, 0},
		{impl.MaxNumber, -impl.MaxNumber, impl.MaxNumber, 0, -1}, {0, impl.MaxNumber, impl.MaxNumber, 0, 1},
		{999999, impl.MaxNumber, 1, 999999, -999998}, {-999999, -impl.MaxNumber, 1, 1, -1},
	} {
		if g, x, y, code := impl.Bezout(c.a, c.b); g != c.g || x != c.x || y != c.y || code != impl.ErrNone {
			t.Errorf("Bezout(%d, %d) = %d, %d, %d, %d", c.a, c.b, g, x, y, code)
		}
	}
	for _, bad := range outsideSigned {
		for _, other := range anyIntegers {
			for _, c := range [][2]int64{{bad, other}, {other, bad}} {
				if g, x, y, code := impl.Bezout(c[0], c[1]); g != 0 || x != 0 || y != 0 || code != impl.ErrRange {
					t.Errorf("Bezout(%d, %d) = %d, %d, %d, %d", c[0], c[1], g, x, y, code)
				}
			}
		}
	}
}

func TestRationalModSolvesItsCongruence(t *testing.T) {
	numbers := []int64{-impl.MaxNumber, -999983, 999983, impl.MaxNumber}
	for n := int64(-30); n <= 30; n++ {
		numbers = append(numbers, n)
	}
	for _, p := range []int64{2, 3, 5, 7} {
		for _, num := range numbers {
			for _, den := range numbers {
				checkRational(t, num, den, p)
			}
		}
	}
}

func checkRational(t *testing.T, num int64, den int64, p int64) {
	t.Helper()
	x, code := impl.RationalMod(num, den, p)
	if den%p == 0 {
		if x != 0 || code != impl.ErrNotFound {
			t.Errorf("RationalMod(%d, %d, %d) = %d, %d", num, den, p, x, code)
		}
		return
	}
	if x < 0 || x >= p || (den*x-num)%p != 0 || code != impl.ErrNone {
		t.Errorf("RationalMod(%d, %d, %d) = %d, %d", num, den, p, x, code)
	}
}

// A number or a prime out of range is an error ahead of a denominator that p divides.
func TestRationalModErrors(t *testing.T) {
	if x, code := impl.RationalMod(1, 12, 5); x != 3 || code != impl.ErrNone {
		t.Errorf("RationalMod(1, 12, 5) = %d, %d", x, code)
	}
	var cases [][3]int64
	for _, bad := range outsideSigned {
		cases = append(cases, [3]int64{bad, 1, 5}, [3]int64{bad, 0, 5}, [3]int64{1, bad, 5}, [3]int64{bad, bad, 4})
	}
	for _, p := range outsidePrimes {
		cases = append(cases, [3]int64{1, 1, p}, [3]int64{1, 0, p}, [3]int64{1, p, p})
	}
	for _, c := range cases {
		if x, code := impl.RationalMod(c[0], c[1], c[2]); x != 0 || code != impl.ErrRange {
			t.Errorf("RationalMod(%d, %d, %d) = %d, %d", c[0], c[1], c[2], x, code)
		}
	}
}
