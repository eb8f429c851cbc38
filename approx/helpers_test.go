package approx_test

import (
	"math/big"
	"slices"
	"testing"

	"gridmarket/api"
)

// top is the greatest limb.
const top = 1<<32 - 1

// n is a list of limbs.
func n(limbs ...uint32) []uint32 { return limbs }

// pos and neg are integers with the limbs as their magnitude, canonical or not.
func pos(limbs ...uint32) api.Int { return api.Int{Mag: limbs} }
func neg(limbs ...uint32) api.Int { return api.Int{Neg: true, Mag: limbs} }

// whole is the canonical integer v.
func whole(v int) api.Int { return canonicalInt(big.NewInt(int64(v))) }

// terms is a list of canonical integers.
func terms(values ...int) []api.Int {
	l := make([]api.Int, len(values))
	for i, v := range values {
		l[i] = whole(v)
	}
	return l
}

// frac is the number num / den with these parts as they stand, in lowest terms or not; den is not negative.
func frac(num, den int) api.Rat { return api.Rat{Num: whole(num), Den: whole(den).Mag} }

// bigInt is the value of an integer as a number of the standard library.
func bigInt(a api.Int) *big.Int {
	v := new(big.Int)
	for _, limb := range slices.Backward(a.Mag) {
		v.Lsh(v, 32)
		v.Or(v, new(big.Int).SetUint64(uint64(limb)))
	}
	if a.Neg {
		v.Neg(v)
	}
	return v
}

// value is the value of a number as a number of the standard library.
func value(a api.Rat) *big.Rat {
	den := bigInt(api.Int{Mag: a.Den})
	if den.Sign() == 0 {
		return new(big.Rat)
	}
	return new(big.Rat).SetFrac(bigInt(a.Num), den)
}

// canonicalInt and canonical are the canonical numbers with a value.
func canonicalInt(v *big.Int) api.Int {
	a := api.Int{Neg: v.Sign() < 0}
	mask := big.NewInt(top)
	for rest := new(big.Int).Abs(v); rest.Sign() > 0; rest.Rsh(rest, 32) {
		a.Mag = append(a.Mag, uint32(new(big.Int).And(rest, mask).Uint64()))
	}
	return a
}

func canonical(v *big.Rat) api.Rat {
	return api.Rat{Num: canonicalInt(v.Num()), Den: canonicalInt(v.Denom()).Mag}
}

// loose is another form of a number: not in lowest terms, and with zeros above both parts.
func loose(a api.Rat) api.Rat {
	factor := big.NewInt(6 << 40)
	num, den := factor.Mul(factor, bigInt(a.Num)), new(big.Int).Mul(big.NewInt(6<<40), bigInt(api.Int{Mag: a.Den}))
	return api.Rat{Num: looseInt(canonicalInt(num)), Den: append(canonicalInt(den).Mag, 0)}
}

// looseInt is another form of an integer: with zeros above it, and negated if it is 0.
func looseInt(a api.Int) api.Int {
	return api.Int{Neg: a.Neg || len(a.Mag) == 0, Mag: append(slices.Clone(a.Mag), 0, 0)}
}

// zeros are numbers with the value 0: with the numerator 0, and with a denominator that has the value 0.
func zeros() []api.Rat {
	return []api.Rat{
		{}, {Den: n(1)}, {Num: pos(0), Den: n(5)}, {Num: neg(), Den: n(7)}, {Num: neg(0, 0), Den: n(0, 0, 9)},
		{Num: pos(7)}, {Num: neg(7), Den: n()}, {Num: pos(3), Den: n(0)}, {Num: neg(top, top), Den: n(0, 0, 0)},
	}
}

func equalInt(a, b api.Int) bool { return a.Neg == b.Neg && slices.Equal(a.Mag, b.Mag) }

func equal(a, b api.Rat) bool { return equalInt(a.Num, b.Num) && slices.Equal(a.Den, b.Den) }

// want reports an error if got is not the expected number, field by field, with true; nil and empty lists are equal.
func want(t *testing.T, what string, got api.Rat, ok bool, expected api.Rat) {
	t.Helper()
	if !ok || !equal(got, expected) {
		t.Errorf("%s: got %v, %v, want %v", what, got, ok, expected)
	}
}

// wantValue reports an error if got is not the canonical number with a value, with true.
func wantValue(t *testing.T, what string, got api.Rat, ok bool, expected *big.Rat) {
	t.Helper()
	want(t, what, got, ok, canonical(expected))
}

// wantNone reports an error if a call that has no result does not return the zero value and false.
func wantNone(t *testing.T, what string, got api.Rat, ok bool) {
	t.Helper()
	if ok || !equal(got, api.Rat{}) {
		t.Errorf("%s: got %v, %v, want the zero value and false", what, got, ok)
	}
}

// source is a sequence of numbers that looks random and is the same in every run.
type source uint64

func (s *source) next() uint32 {
	*s = *s*6364136223846793005 + 1442695040888963407
	return uint32(*s >> 32)
}

// below returns a number below m.
func (s *source) below(m int) int { return int(s.next() % uint32(m)) }

// list returns at most longest limbs and perhaps zeros above them.
func (s *source) list(longest int) []uint32 {
	borders := []uint32{0, 1, 2, 1 << 31, top}
	a := make([]uint32, s.below(longest+1))
	for i := range a {
		a[i] = s.next()
		if s.below(2) == 0 {
			a[i] = borders[s.below(len(borders))]
		}
	}
	return append(a, make([]uint32, s.below(3))...)
}

func (s *source) integer(longest int) api.Int {
	return api.Int{Neg: s.below(2) == 0, Mag: s.list(longest)}
}

func (s *source) number(longest int) api.Rat {
	return api.Rat{Num: s.integer(longest), Den: s.list(longest)}
}

// fibonacci returns the quotient of two neighbours in Fibonacci's sequence: the number with the longest continued fraction for its size.
func fibonacci(index int) api.Rat {
	a, b := big.NewInt(1), big.NewInt(1)
	for range index {
		a, b = b, new(big.Int).Add(a, b)
	}
	return canonical(new(big.Rat).SetFrac(b, a))
}

// numbers are short and long numbers, in lowest terms and not, of both signs.
func numbers() []api.Rat {
	all := append(zeros(), fibonacci(300), fibonacci(301))
	for num := -60; num <= 60; num++ {
		for den := range 26 {
			all = append(all, frac(num, den))
		}
	}
	s := source(1)
	for range 500 {
		all = append(all, s.number(4))
	}
	for range 10 {
		all = append(all, s.number(40), loose(s.number(40)))
	}
	return all
}

// bigFloor and bigCeil are the integers around v; the standard library's division by a positive number rounds down.
func bigFloor(v *big.Rat) *big.Int { return new(big.Int).Div(v.Num(), v.Denom()) }

func bigCeil(v *big.Rat) *big.Int {
	floor := bigFloor(new(big.Rat).Neg(v))
	return floor.Neg(floor)
}
