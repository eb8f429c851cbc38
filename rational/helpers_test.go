package rational_test

import (
	"math/big"
	"slices"
	"testing"

	"gridmarket/api"
)

// top is the greatest limb.
const top = 1<<32 - 1

// n is a list of limbs.
func n(limbs ...uint32) []uint32 { return limbs }

// pos and neg are integers with the limbs as their magnitude, canonical or not.
func pos(limbs ...uint32) api.Int { return api.Int{Mag: limbs} }
func neg(limbs ...uint32) api.Int { return api.Int{Neg: true, Mag: limbs} }

// frac is the number num / den with these parts as they stand, in lowest terms or not.
func frac(num, den int) api.Rat {
	a := api.Rat{Num: pos(uint32(max(num, -num))), Den: n(uint32(den))}
	a.Num.Neg = num < 0
	return a
}

// bigNatural and bigInt are the values of a list of limbs and of an integer as numbers of the standard library.
func bigNatural(a []uint32) *big.Int {
	v := new(big.Int)
	for _, limb := range slices.Backward(a) {
		v.Lsh(v, 32)
		v.Or(v, new(big.Int).SetUint64(uint64(limb)))
	}
	return v
}

func bigInt(a api.Int) *big.Int {
	v := bigNatural(a.Mag)
	if a.Neg {
		v.Neg(v)
	}
	return v
}

// value is the value of a number as a number of the standard library.
func value(a api.Rat) *big.Rat {
	den := bigNatural(a.Den)
	if den.Sign() == 0 {
		return new(big.Rat)
	}
	return new(big.Rat).SetFrac(bigInt(a.Num), den)
}

// limbs is the canonical list of the absolute value of v.
func limbs(v *big.Int) []uint32 {
	var a []uint32
	mask := big.NewInt(top)
	for rest := new(big.Int).Abs(v); rest.Sign() > 0; rest.Rsh(rest, 32) {
		a = append(a, uint32(new(big.Int).And(rest, mask).Uint64()))
	}
	return a
}

func canonicalInt(v *big.Int) api.Int { return api.Int{Neg: v.Sign() < 0, Mag: limbs(v)} }

func canonical(v *big.Rat) api.Rat {
	return api.Rat{Num: canonicalInt(v.Num()), Den: limbs(v.Denom())}
}

func equalInt(a, b api.Int) bool { return a.Neg == b.Neg && slices.Equal(a.Mag, b.Mag) }

func equal(a, b api.Rat) bool { return equalInt(a.Num, b.Num) && slices.Equal(a.Den, b.Den) }

// want reports an error if got is not the expected number, field by field; nil and empty lists are equal.
func want(t *testing.T, what string, got, expected api.Rat) {
	t.Helper()
	if !equal(got, expected) {
		t.Errorf("%s: got %v, want %v", what, got, expected)
	}
}

// wantValue reports an error if got is not the canonical number with a value.
func wantValue(t *testing.T, what string, got api.Rat, expected *big.Rat) {
	t.Helper()
	want(t, what, got, canonical(expected))
}

// wantInt reports an error if got is not the canonical integer with a value.
func wantInt(t *testing.T, what string, got api.Int, expected *big.Int) {
	t.Helper()
	if !equalInt(got, canonicalInt(expected)) {
		t.Errorf("%s: got %v, want %v", what, got, expected)
	}
}

// wantNone reports an error if a call that has no result does not return the zero value and false.
func wantNone(t *testing.T, what string, got api.Rat, ok bool) {
	t.Helper()
	if ok || !equal(got, api.Rat{}) {
		t.Errorf("%s: got %v, %v, want the zero value and false", what, got, ok)
	}
}

// source is a sequence of numbers that looks random and is the same in every run.
type source uint64

func (s *source) next() uint32 {
	*s = *s*6364136223846793005 + 1442695040888963407
	return uint32(*s >> 32)
}

// below returns a number below m.
func (s *source) below(m int) int { return int(s.next() % uint32(m)) }

// list returns at most longest limbs, which are often at a border, and perhaps zeros above them.
func (s *source) list(longest int) []uint32 {
	borders := []uint32{0, 1, 2, 1<<31 - 1, 1 << 31, top}
	a := make([]uint32, s.below(longest+1))
	for i := range a {
		a[i] = s.next()
		if s.below(2) == 0 {
			a[i] = borders[s.below(len(borders))]
		}
	}
	if s.below(4) == 0 {
		a = append(a, make([]uint32, s.below(3))...)
	}
	return a
}

// number returns a number whose parts have at most longest limbs; it is often not in lowest terms.
func (s *source) number(longest int) api.Rat {
	a := api.Rat{Num: api.Int{Neg: s.below(2) == 0, Mag: s.list(longest)}, Den: s.list(longest)}
	if s.below(3) == 0 {
		factor := bigNatural(s.list(longest))
		a.Num.Mag = limbs(factor.Mul(factor, bigNatural(a.Num.Mag)))
		a.Den = limbs(factor.Mul(factor, bigNatural(a.Den)))
	}
	return a
}

// small returns a number with short parts.
func (s *source) small() api.Rat { return frac(s.below(2001)-1000, s.below(30)) }

// magnitudes are lists of limbs at the borders of 31, 32 and 64 bits, canonical and not.
func magnitudes() [][]uint32 {
	return [][]uint32{
		nil, {}, {0}, {0, 0, 0}, {1}, {1, 0}, {2}, {3, 0, 0}, {7}, {9}, {12}, {1<<31 - 1}, {1 << 31}, {top}, {top, 0},
		{0, 1}, {top, 1<<31 - 1}, {0, 1 << 31, 0}, {top, top}, {0, 0, 1}, {6, 0, 1 << 31, top, 0}, {top, top, top, top, top},
	}
}

// samples are all fractions of two magnitudes, with both signs.
func samples() []api.Rat {
	var all []api.Rat
	for _, num := range magnitudes() {
		for _, den := range magnitudes() {
			all = append(all, api.Rat{Num: api.Int{Mag: num}, Den: den}, api.Rat{Num: api.Int{Neg: true, Mag: num}, Den: den})
		}
	}
	return all
}

// each calls check with all samples and with other numbers, short and long.
func each(check func(a api.Rat)) {
	for _, a := range samples() {
		check(a)
	}
	s := source(1)
	for range 3000 {
		check(s.small())
		check(s.number(4))
	}
	for range 60 {
		check(s.number(50))
	}
}

// pairs calls check with every sample and itself, with every sample and several others, and with pairs of other numbers, short and long.
func pairs(check func(a, b api.Rat)) {
	all := samples()
	for i, a := range all {
		// Steps of 37 meet numerators and denominators of all kinds.
		for j := range 25 {
			check(a, all[(i+j*37)%len(all)])
		}
	}
	s := source(3)
	for range 3000 {
		check(s.small(), s.small())
		check(s.number(4), s.number(3))
		check(s.small(), s.number(3))
		check(s.number(3), s.small())
	}
	for range 60 {
		check(s.number(50), s.number(40))
	}
}
