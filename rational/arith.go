package rational

import (
	"gridmarket/api"
	"gridmarket/integer"
	"gridmarket/natural"
)

// Neg returns -a.
func Neg(a api.Rat) api.Rat {
	return Norm(opposite(a))
}

// Add returns the sum.
func Add(a, b api.Rat) api.Rat {
	a, b = proper(a), proper(b)
	if s, t, ok := shortPair(a, b); ok {
		return lowestShort(s.num*t.den+t.num*s.den, s.den*t.den)
	}
	// The denominators of sums and of solutions of equations have much in common. Over their least common multiple, the sum stays short.
	common := natural.GCD(a.Den, b.Den)
	restA, _, _ := natural.DivMod(a.Den, common)
	restB, _, _ := natural.DivMod(b.Den, common)
	return lowest(integer.Add(times(a.Num, restB), times(b.Num, restA)), natural.Mul(a.Den, restB))
}

// Sub returns the difference.
func Sub(a, b api.Rat) api.Rat {
	return Add(a, opposite(b))
}

// Mul returns the product.
func Mul(a, b api.Rat) api.Rat {
	a, b = proper(a), proper(b)
	if s, t, ok := shortPair(a, b); ok {
		return lowestShort(s.num*t.num, s.den*t.den)
	}
	return lowest(integer.Mul(a.Num, b.Num), natural.Mul(a.Den, b.Den))
}

// Inv returns 1/a, or false if a is 0.
func Inv(a api.Rat) (api.Rat, bool) {
	if Sign(a) == 0 {
		return api.Rat{}, false
	}
	return Norm(reciprocal(a)), true
}

// Div returns a/b, or false if b is 0.
func Div(a, b api.Rat) (api.Rat, bool) {
	if Sign(b) == 0 {
		return api.Rat{}, false
	}
	return Mul(a, reciprocal(b)), true
}

// Sum returns the sum of a list.
func Sum(l []api.Rat) api.Rat {
	return Norm(total(l))
}

// Dot returns the sum of the products of corresponding elements, or false if the lengths differ.
func Dot(a, b []api.Rat) (api.Rat, bool) {
	if len(a) != len(b) {
		return api.Rat{}, false
	}
	products := make([]api.Rat, len(a))
	for i := range a {
		products[i] = Mul(a[i], b[i])
	}
	return total(products), true
}

// total is the sum of a list; that of a single element is this element itself, in its own memory. The halves are added up first, because sums of few elements have short denominators.
func total(l []api.Rat) api.Rat {
	switch len(l) {
	case 0:
		return FromInt(0)
	case 1:
		return l[0]
	}
	half := len(l) / 2
	return Add(total(l[:half]), total(l[half:]))
}

// opposite is -a. It shares the memory of a.
func opposite(a api.Rat) api.Rat {
	a.Num.Neg = !a.Num.Neg
	return a
}

// reciprocal is 1 / a, where a is not 0. It shares the memory of a.
func reciprocal(a api.Rat) api.Rat {
	return api.Rat{Num: api.Int{Neg: a.Num.Neg, Mag: a.Den}, Den: a.Num.Mag}
}
