package impl

const (
	ErrNone = iota
	ErrInvalid
	ErrRange
	ErrLimit
	ErrNotFound
	ErrState
	ErrSyntax

	MaxNumber = 1000000
	MaxPrime  = 7
)

// residue carries its modulus, so that its methods need no further argument. The modulus is at
// most MaxNumber, so that a product of two values does not overflow.
type residue struct {
	value, modulus int64
}

func residueOf(a int64, m int64) residue {
	value := a % m
	if value < 0 {
		value += m
	}
	return residue{value, m}
}

func (r residue) isOne() bool { return r == residueOf(1, r.modulus) }

func (r residue) times(s residue) residue { return residueOf(r.value*s.value, r.modulus) }

func (r residue) power(exponent int64) residue {
	result := residueOf(1, r.modulus)
	for square := r; exponent > 0; exponent /= 2 {
		if exponent%2 == 1 {
			result = result.times(square)
		}
		square = square.times(square)
	}
	return result
}

// inverse keeps, along Euclid's algorithm, only the coefficient of the value: the one of the
// modulus does not matter.
func (r residue) inverse() (residue, bool) {
	divisor, remainder := r.value, r.modulus
	x, nextX := int64(1), int64(0)
	for remainder != 0 {
		quotient := divisor / remainder
		divisor, remainder = remainder, divisor-quotient*remainder
		x, nextX = nextX, x-quotient*nextX
	}
	if divisor != 1 {
		return residue{}, false
	}
	return residueOf(x, r.modulus), true
}

// order starts from the number of units, which every order divides, and takes away the primes
// that the order can do without.
func (r residue) order() (int64, bool) {
	if _, ok := r.inverse(); !ok {
		return 0, false
	}
	order := countUnits(r.modulus)
	primes, _, _ := Factorize(order)
	for _, p := range primes {
		for order%p == 0 && r.power(order/p).isOne() {
			order /= p
		}
	}
	return order, true
}

func countUnits(m int64) int64 {
	units := m
	primes, _, _ := Factorize(m)
	for _, p := range primes {
		units = units / p * (p - 1)
	}
	return units
}

// isNumber is one test for two uses: what is factorized and a modulus have the same range.
func isNumber(n int64) bool { return 1 <= n && n <= MaxNumber }

func isSignedNumber(a int64) bool { return -MaxNumber <= a && a <= MaxNumber }

func signOf(a int64) int64 {
	switch {
	case a > 0:
		return 1
	case a < 0:
		return -1
	}
	return 0
}

// commonDivisor is for numbers that isSignedNumber accepts: the least int64 has no absolute value.
func commonDivisor(a int64, b int64) int64 {
	for b != 0 {
		a, b = b, a%b
	}
	return a * signOf(a)
}

// removePrime returns how often p divides n, and n without these factors.
func removePrime(n int64, p int64) (int64, int64) {
	exponent := int64(0)
	for n%p == 0 {
		n /= p
		exponent++
	}
	return exponent, n
}

// IsGroupPrime reports whether n is 2, 3, 5 or 7.
func IsGroupPrime(n int64) bool { return n == 2 || n == 3 || n == 5 || n == MaxPrime }

// Factorize returns the primes that divide n in ascending order, their exponents in the same
// order, and ErrNone. Both lists are empty for n = 1. Errors: ErrRange unless 1 <= n <=
// MaxNumber.
func Factorize(n int64) ([]int64, []int64, int64) {
	if !isNumber(n) {
		return nil, nil, ErrRange
	}
	var primes, exponents []int64
	for p := int64(2); n > 1; p++ {
		if p*p > n {
			p = n // without a divisor up to its square root, the rest is prime
		}
		exponent, rest := removePrime(n, p)
		if exponent > 0 {
			primes = append(primes, p)
			exponents = append(exponents, exponent)
		}
		n = rest
	}
	return primes, exponents, ErrNone
}

// PrimePart returns the greatest power of p that divides n (1 if p does not divide it), and
// ErrNone. Errors: ErrRange unless 1 <= n <= MaxNumber and p is a group prime.
func PrimePart(n int64, p int64) (int64, int64) {
	if !isNumber(n) || !IsGroupPrime(p) {
		return 0, ErrRange
	}
	_, rest := removePrime(n, p)
	return n / rest, ErrNone
}

// ModPower returns the residue of base to the power exponent modulo m, and ErrNone; the power
// with exponent 0 is 1. The base is any integer. Errors: ErrRange unless m is a modulus and 0 <=
// exponent <= MaxNumber.
func ModPower(base int64, exponent int64, m int64) (int64, int64) {
	if !isNumber(m) || exponent < 0 || exponent > MaxNumber {
		return 0, ErrRange
	}
	return residueOf(base, m).power(exponent).value, ErrNone
}

// ModInverse returns the integer x from 0 to m - 1 for which a x is congruent to 1 modulo m, and
// ErrNone; a is any integer, and the result is 0 for m = 1. Errors: ErrRange unless m is a
// modulus; ErrNotFound if there is no such integer.
func ModInverse(a int64, m int64) (int64, int64) {
	if !isNumber(m) {
		return 0, ErrRange
	}
	inverse, ok := residueOf(a, m).inverse()
	if !ok {
		return 0, ErrNotFound
	}
	return inverse.value, ErrNone
}

// UnitOrder returns the least k of at least 1 for which the power of a with exponent k is
// congruent to 1 modulo m, and ErrNone; a is any integer, and the result is 1 for m = 1. Errors:
// ErrRange unless m is a modulus; ErrNotFound if there is no such k, which is the case exactly
// if a and m have a common divisor greater than 1.
func UnitOrder(a int64, m int64) (int64, int64) {
	if !isNumber(m) {
		return 0, ErrRange
	}
	order, ok := residueOf(a, m).order()
	if !ok {
		return 0, ErrNotFound
	}
	return order, ErrNone
}

// Bezout returns the greatest common divisor g of a and b (not negative; 0 if both are 0),
// integers x and y with a x + b y = g, and ErrNone. If b is 0, then x is 1 for a positive a, -1
// for a negative a and 0 for a = 0, and y is 0. Otherwise x is the least integer of at least 0
// for which such an integer y exists, and y is that integer. Errors: ErrRange unless both lie in
// -MaxNumber..MaxNumber.
func Bezout(a int64, b int64) (int64, int64, int64, int64) {
	if !isSignedNumber(a) || !isSignedNumber(b) {
		return 0, 0, 0, ErrRange
	}
	g := commonDivisor(a, b)
	if b == 0 {
		return g, signOf(a), 0, ErrNone
	}
	// Divided by g, the equation says that x is an inverse, which exists: no common divisor is left.
	x, _ := residueOf(a/g, b*signOf(b)/g).inverse()
	return g, x.value, (g - a*x.value) / b, ErrNone
}

// RationalMod returns the residue x modulo p for which den x is congruent to num, and ErrNone.
// Errors: ErrRange unless both numbers lie in -MaxNumber..MaxNumber and p is a group prime;
// ErrNotFound if p divides den.
func RationalMod(num int64, den int64, p int64) (int64, int64) {
	if !isSignedNumber(num) || !isSignedNumber(den) || !IsGroupPrime(p) {
		return 0, ErrRange
	}
	inverse, ok := residueOf(den, p).inverse()
	if !ok {
		return 0, ErrNotFound
	}
	return inverse.times(residueOf(num, p)).value, ErrNone
}
