package natural_test

import (
	"math/big"
	"slices"
	"testing"
)

// top is the greatest limb.
const top = 1<<32 - 1

// n is a list of limbs.
func n(limbs ...uint32) []uint32 { return limbs }

// value is the value of a list as a number of the standard library.
func value(a []uint32) *big.Int {
	v := new(big.Int)
	for _, limb := range slices.Backward(a) {
		v.Lsh(v, 32)
		v.Or(v, new(big.Int).SetUint64(uint64(limb)))
	}
	return v
}

// canonical is the canonical list of a value.
func canonical(v *big.Int) []uint32 {
	var a []uint32
	mask := big.NewInt(top)
	for v := new(big.Int).Set(v); v.Sign() > 0; v.Rsh(v, 32) {
		a = append(a, uint32(new(big.Int).And(v, mask).Uint64()))
	}
	return a
}

// want reports an error if got is not the expected list, limb by limb; nil and empty lists are equal.
func want(t *testing.T, what string, got, expected []uint32) {
	t.Helper()
	if !slices.Equal(got, expected) {
		t.Errorf("%s: got %v, want %v", what, got, expected)
	}
}

// wantValue reports an error if got is not the canonical list of a value.
func wantValue(t *testing.T, what string, got []uint32, expected *big.Int) {
	t.Helper()
	want(t, what, got, canonical(expected))
}

// wantFlag reports an error if a boolean result is not as expected.
func wantFlag(t *testing.T, what string, got, expected bool) {
	t.Helper()
	if got != expected {
		t.Errorf("%s: got %v, want %v", what, got, expected)
	}
}

// source is a sequence of numbers that looks random and is the same in every run.
type source uint64

func (s *source) next() uint32 {
	*s = *s*6364136223846793005 + 1442695040888963407
	return uint32(*s >> 32)
}

// below returns a number below m.
func (s *source) below(m int) int { return int(s.next() % uint32(m)) }

// limb returns a limb that is often at a border.
func (s *source) limb() uint32 {
	borders := []uint32{0, 1, 2, 1<<31 - 1, 1 << 31, 1<<31 + 1, top - 1, top}
	if s.below(2) == 0 {
		return borders[s.below(len(borders))]
	}
	return s.next()
}

// list returns a list of at most longest limbs, not always canonical.
func (s *source) list(longest int) []uint32 {
	a := make([]uint32, s.below(longest+1))
	for i := range a {
		a[i] = s.limb()
	}
	if s.below(4) == 0 {
		a = append(a, make([]uint32, s.below(3))...)
	}
	return a
}

// samples are lists at the borders of 32 and 64 bits, with and without zeros at the end.
func samples() [][]uint32 {
	return [][]uint32{
		nil, n(), n(0), n(0, 0, 0),
		n(1), n(1, 0), n(2), n(3, 0, 0), n(10), n(1 << 31), n(top - 1), n(top), n(top, 0),
		n(0, 1), n(1, 1), n(0, 1, 0), n(top, 1), n(0, 1<<31), n(top, 1<<31), n(top-1, top), n(top, top), n(top, top, 0),
		n(0, 0, 1), n(1, 0, 1), n(0, 0, 1, 0, 0), n(0, 0, 1<<31), n(1, 0, 1<<31), n(1, 0, 1<<29), n(top, top, top), n(1, 1, 1),
		n(0, 0, 0, 1), n(0, top, top), n(0, 0, 1<<31, 1<<31-1), n(3, 0, 1<<31, top), n(top, top, top, top, top),
	}
}

// pairs calls check with pairs of samples and with pairs of other lists, short and long.
func pairs(check func(a, b []uint32)) {
	for _, a := range samples() {
		for _, b := range samples() {
			check(a, b)
		}
	}
	s := source(7)
	for range 4000 {
		check(s.list(9), s.list(5))
	}
	for range 100 {
		check(s.list(80), s.list(60))
	}
}
