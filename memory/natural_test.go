package memory

import (
	"math"
	"testing"

	"gridmarket/natural"
)

func TestNatural(t *testing.T) {
	for _, x := range integers() {
		a := x.Mag
		check(t, "Trim", natural.Trim, a)
		check(t, "Uint64", natural.Uint64, a)
		check(t, "Bits", natural.Bits, a)
		for _, n := range []int{-1, 0, 13, 32, 64} {
			check(t, "ShiftLeft", natural.ShiftLeft, a, n)
			check(t, "ShiftRight", natural.ShiftRight, a, n)
		}
		for _, y := range integers() {
			b := y.Mag
			check(t, "Compare", natural.Compare, a, b)
			check(t, "Add", natural.Add, a, b)
			check(t, "Sub", natural.Sub, a, b)
			check(t, "Mul", natural.Mul, a, b)
			check(t, "DivMod", natural.DivMod, a, b)
			check(t, "GCD", natural.GCD, a, b)
		}
	}
	for _, v := range []uint64{0, 1, 1 << 32, math.MaxUint64} {
		check(t, "FromUint64", natural.FromUint64, v)
	}
}
