package natural_test

import (
	"math"
	"math/big"
	"testing"

	"gridmarket/api"
	"gridmarket/natural"
)

// P1.4

func TestBits(t *testing.T) {
	for _, a := range samples() {
		if got := natural.Bits(a); got != value(a).BitLen() {
			t.Errorf("Bits(%v): got %d, want %d", a, got, value(a).BitLen())
		}
	}
	for i := range 200 {
		power, _ := natural.ShiftLeft(n(1), i)
		below, _ := natural.Sub(power, n(1))
		if natural.Bits(power) != i+1 || natural.Bits(below) != i {
			t.Errorf("Bits at 2^%d: got %d, and %d below it", i, natural.Bits(power), natural.Bits(below))
		}
	}
}

// distances are permitted shifts, also those at the borders of limbs.
func distances() []int {
	return []int{0, 1, 5, 31, 32, 33, 63, 64, 65, 95, 96, 97, 160, 1000, api.MaxShift - 1, api.MaxShift}
}

func TestShiftLeft(t *testing.T) {
	for _, a := range samples() {
		for _, d := range distances() {
			got, ok := natural.ShiftLeft(a, d)
			wantFlag(t, "ShiftLeft", ok, true)
			wantValue(t, "ShiftLeft", got, new(big.Int).Lsh(value(a), uint(d)))
		}
	}
}

func TestShiftLeftRefused(t *testing.T) {
	for _, a := range samples() {
		for _, d := range []int{-1, math.MinInt, api.MaxShift + 1, 1 << 31, 1 << 62, math.MaxInt} {
			got, ok := natural.ShiftLeft(a, d)
			wantFlag(t, "ShiftLeft", ok, false)
			want(t, "ShiftLeft", got, nil)
		}
	}
}

func TestShiftRight(t *testing.T) {
	for _, a := range samples() {
		for _, d := range append(distances(), api.MaxShift+1, 1<<31) {
			got, ok := natural.ShiftRight(a, d)
			wantFlag(t, "ShiftRight", ok, true)
			wantValue(t, "ShiftRight", got, new(big.Int).Rsh(value(a), uint(d)))
		}
		for _, d := range []int{1 << 62, math.MaxInt} {
			got, ok := natural.ShiftRight(a, d)
			wantFlag(t, "ShiftRight by much", ok, true)
			want(t, "ShiftRight by much", got, n())
		}
	}
	long := make([]uint32, api.MaxShift/32+2)
	long[len(long)-1] = 3
	got, ok := natural.ShiftRight(long, api.MaxShift+32)
	wantFlag(t, "a right shift above MaxShift", ok, true)
	want(t, "a right shift above MaxShift", got, n(3))
}

func TestShiftRightRefused(t *testing.T) {
	for _, a := range samples() {
		for _, d := range []int{-1, -32, math.MinInt} {
			got, ok := natural.ShiftRight(a, d)
			wantFlag(t, "ShiftRight", ok, false)
			want(t, "ShiftRight", got, nil)
		}
	}
}
