package integer_test

import (
	"math/big"
	"slices"
	"testing"

	"gridmarket/api"
)

// top is the greatest limb.
const top = 1<<32 - 1

// pos and neg are integers with the limbs as their magnitude, canonical or not.
func pos(limbs ...uint32) api.Int { return api.Int{Mag: limbs} }
func neg(limbs ...uint32) api.Int { return api.Int{Neg: true, Mag: limbs} }

// value is the value of an integer as a number of the standard library.
func value(a api.Int) *big.Int {
	v := new(big.Int)
	for _, limb := range slices.Backward(a.Mag) {
		v.Lsh(v, 32)
		v.Or(v, new(big.Int).SetUint64(uint64(limb)))
	}
	if a.Neg {
		v.Neg(v)
	}
	return v
}

// canonical is the canonical integer with a value.
func canonical(v *big.Int) api.Int {
	a := api.Int{Neg: v.Sign() < 0}
	mask := big.NewInt(top)
	for rest := new(big.Int).Abs(v); rest.Sign() > 0; rest.Rsh(rest, 32) {
		a.Mag = append(a.Mag, uint32(new(big.Int).And(rest, mask).Uint64()))
	}
	return a
}

func equal(a, b api.Int) bool { return a.Neg == b.Neg && slices.Equal(a.Mag, b.Mag) }

// want reports an error if got is not the expected integer, field by field; nil and empty lists are equal.
func want(t *testing.T, what string, got, expected api.Int) {
	t.Helper()
	if !equal(got, expected) {
		t.Errorf("%s: got %v, want %v", what, got, expected)
	}
}

// wantValue reports an error if got is not the canonical integer with a value.
func wantValue(t *testing.T, what string, got api.Int, expected *big.Int) {
	t.Helper()
	want(t, what, got, canonical(expected))
}

// source is a sequence of numbers that looks random and is the same in every run.
type source uint64

func (s *source) next() uint32 {
	*s = *s*6364136223846793005 + 1442695040888963407
	return uint32(*s >> 32)
}

// below returns a number below m.
func (s *source) below(m int) int { return int(s.next() % uint32(m)) }

// number returns an integer of at most longest limbs and perhaps zeros above them.
func (s *source) number(longest int) api.Int {
	borders := []uint32{0, 1, 2, 1 << 31, top - 1, top}
	a := api.Int{Neg: s.below(2) == 0}
	for range s.below(longest + 1) {
		limb := s.next()
		if s.below(2) == 0 {
			limb = borders[s.below(len(borders))]
		}
		a.Mag = append(a.Mag, limb)
	}
	if s.below(4) == 0 {
		a.Mag = append(a.Mag, make([]uint32, s.below(3))...)
	}
	return a
}

// magnitudes are lists of limbs at the borders of 31, 32, 63 and 64 bits, canonical and not.
func magnitudes() [][]uint32 {
	return [][]uint32{
		nil, {}, {0}, {0, 0}, {0, 0, 0, 0},
		{1}, {1, 0}, {2}, {3, 0, 0}, {5, 0}, {6}, {7}, {12}, {18}, {12, 0, 0}, {1 << 31}, {top - 1}, {top}, {top, 0},
		{0, 1}, {1, 1}, {0, 1, 0}, {top, 1<<31 - 1}, {top, 1<<31 - 1, 0}, {0, 1 << 31}, {0, 1 << 31, 0, 0}, {1, 1 << 31},
		{top - 1, top}, {top, top}, {top, top, 0}, {0, 0, 1}, {1, 0, 1}, {0, 0, 1, 0}, {0, 0, 1 << 31}, {top, top, top},
		{0, 0, 0, 1}, {3, 0, 1 << 31, top, 0}, {top, top, top, top, top},
	}
}

// samples are the magnitudes with both signs, also the negated 0.
func samples() []api.Int {
	var all []api.Int
	for _, m := range magnitudes() {
		all = append(all, api.Int{Mag: m}, api.Int{Neg: true, Mag: m})
	}
	return all
}

// pairs calls check with all pairs of samples and with pairs of other integers, short and long.
func pairs(check func(a, b api.Int)) {
	for _, a := range samples() {
		for _, b := range samples() {
			check(a, b)
		}
	}
	s := source(3)
	for range 3000 {
		check(s.number(7), s.number(4))
	}
	for range 60 {
		check(s.number(70), s.number(50))
	}
}
