package numtext

import (
	"gridmarket/api"
	"gridmarket/integer"
	"gridmarket/rational"
)

// Decimal returns the shortest number text or decimal text of a, or false if there is none.
func Decimal(a api.Rat) (string, bool) {
	a = rational.Norm(a)
	twos, rest := removeFactors(api.Int{Mag: a.Den}, integer.FromInt(2))
	fives, rest := removeFactors(rest, integer.FromInt(5))
	if integer.Compare(rest, integer.FromInt(1)) != 0 {
		return "", false
	}
	// With fewer places, 10^places would not be a multiple of the denominator.
	return rounded(a, max(twos, fives)), true
}

// Fixed returns a, rounded half to even, with the given number of digits after the point.
func Fixed(a api.Rat, places int) (string, api.Errno) {
	if places < 0 || places > api.MaxPlaces {
		return "", api.ErrRange
	}
	return rounded(a, places), api.OK
}

// rounded returns the text of a, rounded half to even, with the given number of digits after the point.
func rounded(a api.Rat, places int) string {
	n := rational.Round(rational.Mul(a, api.Rat{Num: powerOfTen(places), Den: []uint32{1}}))
	return withSign(integer.Sign(n), withPoint(FormatInt(integer.Abs(n)), places))
}

// withPoint puts a point before the last digits, as many as there are places, and zeros where there are too few digits. Without places, there is no point.
func withPoint(digits string, places int) string {
	if places == 0 {
		return digits
	}
	digits = padded(digits, places+1)
	at := len(digits) - places
	return digits[:at] + "." + digits[at:]
}

// removeFactors returns how many times p, which is at least 2, divides n, which is at least 1, and what is left of n. The factors are removed in pairs, and these in pairs again: one by one, they would take as many divisions as there are.
func removeFactors(n, p api.Int) (count int, rest api.Int) {
	quotient, remainder, _ := integer.DivMod(n, p)
	if integer.Sign(remainder) != 0 {
		return 0, n
	}
	pairs, rest := removeFactors(quotient, integer.Mul(p, p))
	quotient, remainder, _ = integer.DivMod(rest, p)
	if integer.Sign(remainder) != 0 {
		return 1 + 2*pairs, rest
	}
	return 2 + 2*pairs, quotient
}
