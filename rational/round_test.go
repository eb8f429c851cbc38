package rational_test

import (
	"math/big"
	"testing"

	"gridmarket/api"
	"gridmarket/integer"
	"gridmarket/rational"
)

// P3.3

// bigFloor is the greatest integer that is not greater than v; the standard library's division by a positive number rounds down.
func bigFloor(v *big.Rat) *big.Int {
	return new(big.Int).Div(v.Num(), v.Denom())
}

func bigCeil(v *big.Rat) *big.Int {
	floor := bigFloor(new(big.Rat).Neg(v))
	return floor.Neg(floor)
}

// bigRound compares the distances of the two integers around v.
func bigRound(v *big.Rat) *big.Int {
	floor, ceil := bigFloor(v), bigCeil(v)
	down := new(big.Rat).Sub(v, new(big.Rat).SetInt(floor))
	up := new(big.Rat).Sub(new(big.Rat).SetInt(ceil), v)
	nearer := down.Cmp(up)
	if nearer < 0 || nearer == 0 && floor.Bit(0) == 0 {
		return floor
	}
	return ceil
}

func TestFloorCeilRound(t *testing.T) {
	check := func(a api.Rat) {
		wantInt(t, "Floor", rational.Floor(a), bigFloor(value(a)))
		wantInt(t, "Ceil", rational.Ceil(a), bigCeil(value(a)))
		wantInt(t, "Round", rational.Round(a), bigRound(value(a)))
	}
	each(check)
	for num := -60; num <= 60; num++ {
		for den := range 13 {
			check(frac(num, den))
		}
	}
}

// around gives the three results for num / den.
type around struct {
	num, den           int
	floor, ceil, round int
}

func TestFloorCeilRoundBySide(t *testing.T) {
	cases := []around{
		{0, 1, 0, 0, 0}, {0, 7, 0, 0, 0}, {5, 0, 0, 0, 0}, {-5, 0, 0, 0, 0},
		{4, 1, 4, 4, 4}, {-4, 1, -4, -4, -4}, {12, 4, 3, 3, 3}, {-12, 4, -3, -3, -3},
		{1, 3, 0, 1, 0}, {-1, 3, -1, 0, 0}, {2, 3, 0, 1, 1}, {-2, 3, -1, 0, -1}, {7, 3, 2, 3, 2}, {-7, 3, -3, -2, -2}, {-8, 3, -3, -2, -3},
		{1, 2, 0, 1, 0}, {-1, 2, -1, 0, 0}, {3, 2, 1, 2, 2}, {-3, 2, -2, -1, -2}, {5, 2, 2, 3, 2}, {-5, 2, -3, -2, -2}, {7, 2, 3, 4, 4}, {-7, 2, -4, -3, -4},
		{6, 4, 1, 2, 2}, {-10, 4, -3, -2, -2},
	}
	for _, c := range cases {
		a := frac(c.num, c.den)
		wantInt(t, "Floor", rational.Floor(a), big.NewInt(int64(c.floor)))
		wantInt(t, "Ceil", rational.Ceil(a), big.NewInt(int64(c.ceil)))
		wantInt(t, "Round", rational.Round(a), big.NewInt(int64(c.round)))
	}
	for _, a := range zeros() {
		wantInt(t, "Floor of 0", rational.Floor(a), new(big.Int))
		wantInt(t, "Ceil of 0", rational.Ceil(a), new(big.Int))
		wantInt(t, "Round of 0", rational.Round(a), new(big.Int))
	}
}

// Halves beyond every word, and the numbers just beside them, on both sides of 0.
func TestRoundOfLongHalves(t *testing.T) {
	for _, odd := range [][]uint32{n(1, 0, 1), n(3, 0, 1), n(top, top, top), n(top-2, top, top, 5)} {
		half := value(api.Rat{Num: pos(odd...), Den: n(2)})
		beside := value(api.Rat{Num: pos(1), Den: n(0, 0, 0, 1)})
		for _, v := range []*big.Rat{half, new(big.Rat).Add(half, beside), new(big.Rat).Sub(half, beside)} {
			wantInt(t, "Round", rational.Round(canonical(v)), bigRound(v))
			v = new(big.Rat).Neg(v)
			wantInt(t, "Round", rational.Round(canonical(v)), bigRound(v))
		}
	}
	wantInt(t, "Round of (2^64 + 1) / 2", rational.Round(api.Rat{Num: pos(1, 0, 1), Den: n(2)}), bigInt(pos(0, 1<<31)))
	wantInt(t, "Round of (2^64 + 3) / 2", rational.Round(api.Rat{Num: pos(3, 0, 1), Den: n(2)}), bigInt(pos(2, 1<<31)))
	wantInt(t, "Round of -(2^64 + 3) / 2", rational.Round(api.Rat{Num: neg(3, 0, 1), Den: n(2)}), bigInt(neg(2, 1<<31)))
}

func TestExamples(t *testing.T) {
	third := api.Rat{Num: pos(3), Den: n(9)}
	want(t, "1/6 + 3/9", rational.Add(frac(1, 6), third), api.Rat{Num: pos(1), Den: n(2)})
	wantInt(t, "Round of 5/2", rational.Round(frac(5, 2)), big.NewInt(2))
	wantInt(t, "Round of -7/2", rational.Round(frac(-7, 2)), big.NewInt(-4))
	wantInt(t, "Floor of -1/3", rational.Floor(frac(-1, 3)), big.NewInt(-1))
	want(t, "7 by nothing", rational.Norm(api.Rat{Num: pos(7), Den: []uint32{}}), rational.FromInt(0))
	if got := rational.Size(api.Rat{Num: integer.FromInt(0), Den: n(1)}); got != 1 {
		t.Errorf("Size of 0: got %d, want 1", got)
	}
}
