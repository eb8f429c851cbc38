package approx

import (
	"gridmarket/api"
	"gridmarket/integer"
)

// expansion is a continued fraction whose terms are taken off one by one, so that nobody pays for terms that are not looked at: that of num / den, or the end if den is 0. The numbers are those of Euclid's algorithm; they need not be in lowest terms.
type expansion struct {
	num, den api.Int
}

// expand returns the continued fraction of a, whose denominator must not be 0. It shares the memory of a, but no term does.
func expand(a api.Rat) expansion {
	return expansion{a.Num, denominator(a)}
}

// isOver says whether all terms were taken off.
func (e *expansion) isOver() bool {
	return integer.Sign(e.den) == 0
}

// next takes off the first term. There must be one.
func (e *expansion) next() api.Int {
	term, rest, _ := integer.DivMod(e.num, e.den)
	e.num, e.den = e.den, rest
	return term
}

// ceiling returns the least integer that is not less than the number that began with the term, which was just taken off.
func (e *expansion) ceiling(term api.Int) api.Int {
	if e.isOver() {
		return term
	}
	return integer.Add(term, integer.FromInt(1))
}

// convergent is the value of a list of terms, num / den, and that of the list without its last term.
type convergent struct {
	num, den       api.Int
	oldNum, oldDen api.Int
}

// nothing is the convergent without terms. Its numbers are those from which the rule of extended leads to the first terms.
func nothing() convergent {
	one, zero := integer.FromInt(1), integer.FromInt(0)
	return convergent{num: one, den: zero, oldNum: zero, oldDen: one}
}

// extended returns the convergent with one more term.
func (c convergent) extended(term api.Int) convergent {
	return convergent{
		num:    integer.Add(integer.Mul(term, c.num), c.oldNum),
		den:    integer.Add(integer.Mul(term, c.den), c.oldDen),
		oldNum: c.num,
		oldDen: c.den,
	}
}

// value returns the number. It is in lowest terms, because num * oldDen - den * oldNum is 1 or -1. It shares the memory of c.
func (c convergent) value() api.Rat {
	return api.Rat{Num: c.num, Den: c.den.Mag}
}

// denominator returns the denominator of a. It shares the memory of a.
func denominator(a api.Rat) api.Int {
	return api.Int{Mag: a.Den}
}
