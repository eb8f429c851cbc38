package memory

import (
	"math"
	"testing"

	"gridmarket/api"
	"gridmarket/integer"
)

// integers are canonical and other integers, with both signs.
func integers() []api.Int {
	var all []api.Int
	for _, mag := range [][]uint32{
		nil, {}, {0}, {0, 0}, {1}, {1, 0}, {5, 0, 0}, {12}, {18}, {0, 1}, {0, 1 << 31}, {math.MaxUint32, math.MaxUint32, 0},
		{0, 0, 6}, {3, 0, 1 << 31, 7, 0}, {1, 2, 3, 4, 5, 6, 7},
	} {
		all = append(all, api.Int{Mag: mag}, api.Int{Neg: true, Mag: mag})
	}
	return all
}

func TestInteger(t *testing.T) {
	for _, a := range integers() {
		check(t, "Norm", integer.Norm, a)
		check(t, "Value", integer.Value, a)
		check(t, "Sign", integer.Sign, a)
		check(t, "Neg", integer.Neg, a)
		check(t, "Abs", integer.Abs, a)
		for _, b := range integers() {
			check(t, "Compare", integer.Compare, a, b)
			check(t, "Add", integer.Add, a, b)
			check(t, "Sub", integer.Sub, a, b)
			check(t, "Mul", integer.Mul, a, b)
			check(t, "DivMod", integer.DivMod, a, b)
			check(t, "GCD", integer.GCD, a, b)
			check(t, "Extended", integer.Extended, a, b)
		}
	}
	for _, v := range []int{0, 1, -1, math.MaxInt, math.MinInt} {
		check(t, "FromInt", integer.FromInt, v)
	}
}
