package integer

import (
	"gridmarket/api"
	"gridmarket/natural"
)

// Add returns the sum.
func Add(a, b api.Int) api.Int {
	if a.Neg == b.Neg {
		return signed(a.Neg, natural.Add(a.Mag, b.Mag))
	}
	if difference, ok := natural.Sub(a.Mag, b.Mag); ok {
		return signed(a.Neg, difference)
	}
	difference, _ := natural.Sub(b.Mag, a.Mag)
	return signed(b.Neg, difference)
}

// Sub returns the difference.
func Sub(a, b api.Int) api.Int {
	// The opposite of b only passes through Add, which copies what it returns.
	b.Neg = !b.Neg
	return Add(a, b)
}

// Mul returns the product.
func Mul(a, b api.Int) api.Int {
	return signed(a.Neg != b.Neg, natural.Mul(a.Mag, b.Mag))
}

// DivMod returns the Euclidean quotient and remainder, or false if b is 0.
func DivMod(a, b api.Int) (q, r api.Int, ok bool) {
	quotient, rest, ok := natural.DivMod(a.Mag, b.Mag)
	if !ok {
		return api.Int{}, api.Int{}, false
	}
	if a.Neg && !isZero(rest) {
		// The magnitudes leave the remainder -rest; one more |b| makes it positive.
		quotient = natural.Add(quotient, []uint32{1})
		rest, _ = natural.Sub(b.Mag, rest)
	}
	return signed(a.Neg != b.Neg, quotient), signed(false, rest), true
}
