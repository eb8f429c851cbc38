package memory

import (
	"math"
	"testing"

	"gridmarket/api"
	"gridmarket/rational"
)

// rationals are short and long numbers, canonical and not, also with a denominator of the value 0.
func rationals() []api.Rat {
	var all []api.Rat
	for _, num := range []api.Int{
		{}, {Neg: true, Mag: []uint32{0, 0}}, {Mag: []uint32{1}}, {Neg: true, Mag: []uint32{12, 0}}, {Mag: []uint32{math.MaxUint32}},
		{Neg: true, Mag: []uint32{0, 0, 6}}, {Mag: []uint32{3, 0, 1 << 31, 7, 0}},
	} {
		for _, den := range [][]uint32{nil, {0}, {1}, {18, 0}, {2}, {0, 0, 4}, {1, 2, 3, 4, 5}} {
			all = append(all, api.Rat{Num: num, Den: den})
		}
	}
	return all
}

func TestRational(t *testing.T) {
	for _, a := range rationals() {
		check(t, "Norm", rational.Norm, a)
		check(t, "New", rational.New, a.Num, api.Int{Neg: true, Mag: a.Den})
		check(t, "Sign", rational.Sign, a)
		check(t, "Neg", rational.Neg, a)
		check(t, "Inv", rational.Inv, a)
		check(t, "Floor", rational.Floor, a)
		check(t, "Ceil", rational.Ceil, a)
		check(t, "Round", rational.Round, a)
		check(t, "Size", rational.Size, a)
		for _, b := range rationals() {
			check(t, "Compare", rational.Compare, a, b)
			check(t, "Add", rational.Add, a, b)
			check(t, "Sub", rational.Sub, a, b)
			check(t, "Mul", rational.Mul, a, b)
			check(t, "Div", rational.Div, a, b)
			check(t, "Min", rational.Min, a, b)
			check(t, "Max", rational.Max, a, b)
		}
	}
	for _, v := range []int{0, 1, -1, math.MaxInt, math.MinInt} {
		check(t, "FromInt", rational.FromInt, v)
		for _, den := range []int{0, 6, -6, math.MinInt} {
			check(t, "FromFrac", rational.FromFrac, api.Frac{Num: v, Den: den})
		}
	}
}

func TestRationalLists(t *testing.T) {
	all := rationals()
	for length := range len(all) + 1 {
		check(t, "Sum", rational.Sum, all[:length])
		check(t, "Sum", rational.Sum, all[length:])
		check(t, "Dot", rational.Dot, all[:length], all[len(all)-length:])
		check(t, "Dot", rational.Dot, all[:length], all[:len(all)/2])
	}
	for _, a := range all {
		check(t, "Sum", rational.Sum, []api.Rat{a})
		check(t, "Dot", rational.Dot, []api.Rat{a}, []api.Rat{a})
	}
}
