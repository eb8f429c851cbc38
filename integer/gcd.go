package integer

import (
	"gridmarket/api"
	"gridmarket/natural"
)

// GCD returns the greatest common divisor, which is not negative.
func GCD(a, b api.Int) api.Int {
	return signed(false, natural.GCD(a.Mag, b.Mag))
}

// Extended returns the greatest common divisor g and integers x and y with a*x + b*y = g.
func Extended(a, b api.Int) (g, x, y api.Int) {
	signA, signB := Sign(a), Sign(b)
	if signA == 0 || signB == 0 {
		return Abs(Add(a, b)), FromInt(signA), FromInt(signB)
	}
	absA, absB := Abs(a), Abs(b)
	g, x = firstFactor(absA, absB)
	y, _, _ = DivMod(Sub(g, Mul(absA, x)), absB)
	if signA < 0 {
		x = Neg(x)
	}
	if signB < 0 {
		y = Neg(y)
	}
	return g, x, y
}

// firstFactor returns the greatest common divisor g of positive a and b, and an x for which b divides g - a*x. It is Euclid's algorithm, in which every remainder is a*x plus a multiple of b, for the x that is kept beside it. The x of the last remainder that is not 0 is at most b/g, in absolute value, so that the other factor, (g - a*x)/b, is at most a/g.
func firstFactor(a, b api.Int) (g, x api.Int) {
	x, nextX := FromInt(1), api.Int{}
	for Sign(b) != 0 {
		q, r, _ := DivMod(a, b)
		a, b = b, r
		x, nextX = nextX, Sub(x, Mul(q, nextX))
	}
	return a, x
}
