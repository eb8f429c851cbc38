package approx

import (
	"gridmarket/api"
	"gridmarket/integer"
	"gridmarket/rational"
)

// Simplest returns the simplest rational number from lo to hi, or false if lo is greater than hi.
func Simplest(lo, hi api.Rat) (api.Rat, bool) {
	switch {
	case rational.Compare(lo, hi) > 0:
		return api.Rat{}, false
	case rational.Sign(lo) > 0:
		return simplestPositive(lo, hi), true
	case rational.Sign(hi) < 0:
		return rational.Neg(simplestPositive(rational.Neg(lo), rational.Neg(hi))), true
	}
	return rational.FromInt(0), true
}

// simplestPositive returns the simplest number from one positive number to another one, whichever is greater. Terms with which both begin are terms of every number between them, and the simplest number goes on with the simplest one between the rests.
func simplestPositive(a, b api.Rat) api.Rat {
	restA, restB, common := expand(a), expand(b), nothing()
	for {
		termA, termB := restA.next(), restB.next()
		least := lesser(restA.ceiling(termA), restB.ceiling(termB))
		// The least integer that is not below the lesser rest is between the rests if it is not above the greater one; otherwise, both terms are equal.
		if integer.Compare(least, termA) <= 0 || integer.Compare(least, termB) <= 0 {
			return common.extended(least).value()
		}
		common = common.extended(termA)
	}
}

// lesser returns the lesser integer. It shares the memory of the argument.
func lesser(a, b api.Int) api.Int {
	if integer.Compare(a, b) < 0 {
		return a
	}
	return b
}

// Below returns the greatest number not greater than a whose denominator is at most most, or false if most is less than 1.
func Below(a api.Rat, most api.Int) (api.Rat, bool) {
	below, _, ok := around(a, most)
	return below, ok
}

// Above returns the least number not less than a whose denominator is at most most, or false if most is less than 1.
func Above(a api.Rat, most api.Int) (api.Rat, bool) {
	_, above, ok := around(a, most)
	return above, ok
}

// around returns the results of Below and Above. They may share memory.
func around(a api.Rat, most api.Int) (below, above api.Rat, ok bool) {
	if integer.Sign(most) <= 0 {
		return api.Rat{}, api.Rat{}, false
	}
	a = rational.Norm(a)
	if integer.Compare(denominator(a), most) <= 0 {
		return a, a, true
	}
	nearest, isBelow := lastConvergent(a, most)
	// Extended by a lesser term than the true one, the convergent becomes its neighbour on the other side of a: between the two, every denominator is at least the sum of theirs. With the greatest term that is permitted, this sum is greater than most.
	term, _, _ := integer.DivMod(integer.Sub(most, nearest.oldDen), nearest.den)
	other := nearest.extended(term)
	if isBelow {
		return nearest.value(), other.value(), true
	}
	return other.value(), nearest.value(), true
}

// lastConvergent returns the last convergent of a whose denominator is at most most, and whether it is below a. The denominator of a itself must be greater.
func lastConvergent(a api.Rat, most api.Int) (last convergent, isBelow bool) {
	rest, last := expand(a), nothing()
	for {
		next := last.extended(rest.next())
		if integer.Compare(next.den, most) > 0 {
			return last, isBelow
		}
		// Convergents are below and above a by turns; the first one is below.
		last, isBelow = next, !isBelow
	}
}
