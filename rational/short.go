package rational

import (
	"gridmarket/api"
	"gridmarket/integer"
	"gridmarket/natural"
)

// shortBits is the number of bits of the parts of a short number: so few that the sum of two products of such parts fits in 64 bits with its sign.
const shortBits = 31

// short is a number with a numerator, without its sign, and a denominator of at most shortBits bits. Most numbers of a case are short; lists of limbs for every intermediate number would take more time than the arithmetic itself.
type short struct {
	num, den int64
}

// shorten returns num / den as a short number, or false if a part is too long; den is not 0.
func shorten(num api.Int, den []uint32) (short, bool) {
	above, fitsAbove := natural.Uint64(num.Mag)
	below, fitsBelow := natural.Uint64(den)
	s := short{int64(above), int64(below)}
	if num.Neg {
		s.num = -s.num
	}
	return s, fitsAbove && fitsBelow && (above|below)>>shortBits == 0
}

// shortPair returns a and b as short numbers, or false if one of them is too long; their denominators are not 0.
func shortPair(a, b api.Rat) (s, t short, ok bool) {
	s, shortA := shorten(a.Num, a.Den)
	t, shortB := shorten(b.Num, b.Den)
	return s, t, shortA && shortB
}

// lowestShort is the canonical form of num / den, where den is positive.
func lowestShort(num, den int64) api.Rat {
	divisor, rest := den, num
	for rest != 0 {
		divisor, rest = rest, divisor%rest
	}
	divisor = max(divisor, -divisor)
	return api.Rat{Num: integer.FromInt(int(num / divisor)), Den: natural.FromUint64(uint64(den / divisor))}
}
