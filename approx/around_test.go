package approx_test

import (
	"math/big"
	"testing"

	"gridmarket/api"
	"gridmarket/approx"
)

// P5.3

// wantAround reports an error if Below and Above do not return the expected numbers.
func wantAround(t *testing.T, a api.Rat, most api.Int, below, above api.Rat) {
	t.Helper()
	if got, ok := approx.Below(a, most); !ok || !equal(got, below) {
		t.Errorf("Below(%v, %v): got %v, %v, want %v", a, most, got, ok, below)
	}
	if got, ok := approx.Above(a, most); !ok || !equal(got, above) {
		t.Errorf("Above(%v, %v): got %v, %v, want %v", a, most, got, ok, above)
	}
}

// nearer returns the greatest number not greater than v, and the least one not less than v, with the denominator den, if it is nearer to v than the given ones.
func nearer(v *big.Rat, den int64, below, above *big.Rat) (newBelow, newAbove *big.Rat) {
	scaled := new(big.Rat).Mul(v, new(big.Rat).SetInt64(den))
	down := new(big.Rat).SetFrac(bigFloor(scaled), big.NewInt(den))
	up := new(big.Rat).SetFrac(bigCeil(scaled), big.NewInt(den))
	if below == nil || down.Cmp(below) > 0 {
		below = down
	}
	if above == nil || up.Cmp(above) < 0 {
		above = up
	}
	return below, above
}

// All small numbers, with every greatest denominator; the expected results are found by trying all denominators.
func TestBelowAndAbove(t *testing.T) {
	for den := range 31 {
		for num := -2*den - 1; num <= 2*den+1; num++ {
			a := frac(num, den)
			var below, above *big.Rat
			for most := 1; most <= 33; most++ {
				below, above = nearer(value(a), int64(most), below, above)
				wantAround(t, a, whole(most), canonical(below), canonical(above))
			}
		}
	}
}

func TestBelowAndAboveOfOtherNumbers(t *testing.T) {
	s := source(2)
	for range 200 {
		a := s.number(5)
		var below, above *big.Rat
		for most := 1; most <= 100; most++ {
			below, above = nearer(value(a), int64(most), below, above)
			wantAround(t, a, looseInt(whole(most)), canonical(below), canonical(above))
			wantAround(t, loose(a), whole(most), canonical(below), canonical(above))
		}
	}
}

func TestBelowAndAboveByHand(t *testing.T) {
	wantAround(t, frac(7, 3), whole(1), frac(2, 1), frac(3, 1))
	wantAround(t, frac(-7, 3), whole(1), frac(-3, 1), frac(-2, 1))
	wantAround(t, frac(1, 3), whole(1), frac(0, 1), frac(1, 1))
	wantAround(t, frac(-1, 3), whole(1), frac(-1, 1), frac(0, 1))
	wantAround(t, frac(1, 100), whole(7), frac(0, 1), frac(1, 7))
	wantAround(t, frac(-1, 100), whole(7), frac(-1, 7), frac(0, 1))
	wantAround(t, frac(99, 100), whole(7), frac(6, 7), frac(1, 1))
	wantAround(t, frac(7, 3), whole(2), frac(2, 1), frac(5, 2))
	wantAround(t, frac(-355, 113), whole(10), frac(-22, 7), frac(-25, 8))
	wantAround(t, frac(355, 113), whole(112), frac(333, 106), frac(22, 7))
	wantAround(t, frac(14, 6), whole(5), frac(7, 3), frac(7, 3))
	wantAround(t, frac(6, 1), whole(1), frac(6, 1), frac(6, 1))
	wantAround(t, frac(12, 2), pos(1, 0), frac(6, 1), frac(6, 1))
}

// Numbers whose denominator in lowest terms is permitted are their own results, however long the permitted denominators are.
func TestBelowAndAboveOfPermittedNumbers(t *testing.T) {
	for _, a := range numbers() {
		expected := canonical(value(a))
		den := api.Int{Mag: expected.Den}
		for _, most := range []api.Int{den, looseInt(den), canonicalInt(new(big.Int).Add(bigInt(den), big.NewInt(1))), canonicalInt(new(big.Int).Lsh(bigInt(den), 100))} {
			wantAround(t, a, most, expected, expected)
			wantAround(t, loose(a), most, expected, expected)
		}
	}
}

func TestBelowAndAboveWithoutDenominators(t *testing.T) {
	for _, a := range []api.Rat{{}, frac(0, 1), frac(7, 0), frac(5, 1), frac(7, 3), frac(-7, 3), fibonacci(100)} {
		for _, most := range []api.Int{pos(), pos(0), pos(0, 0), neg(), neg(0), neg(0, 0, 0), neg(1), neg(7, 0), neg(0, 0, 1), neg(top, top, top)} {
			got, ok := approx.Below(a, most)
			wantNone(t, "Below without a denominator", got, ok)
			got, ok = approx.Above(a, most)
			wantNone(t, "Above without a denominator", got, ok)
		}
	}
}

// checkAround reports an error if the results are not the nearest numbers to a, whose denominator must be greater than most. Two fractions between whose products the difference is 1 have only numbers between them whose denominators are at least the sum of theirs.
func checkAround(t *testing.T, a api.Rat, most *big.Int) {
	t.Helper()
	first, ok := approx.Below(a, canonicalInt(most))
	second, ok2 := approx.Above(a, canonicalInt(most))
	below, above := value(first), value(second)
	wantValue(t, "Below", first, ok, below)
	wantValue(t, "Above", second, ok2, above)
	if below.Cmp(value(a)) >= 0 || above.Cmp(value(a)) <= 0 {
		t.Errorf("%v is not between %v and %v", value(a), below, above)
	}
	if below.Denom().Cmp(most) > 0 || above.Denom().Cmp(most) > 0 {
		t.Errorf("a denominator of %v or %v is greater than %v", below, above, most)
	}
	difference := new(big.Int).Mul(above.Num(), below.Denom())
	difference.Sub(difference, new(big.Int).Mul(below.Num(), above.Denom()))
	if !difference.IsInt64() || difference.Int64() != 1 {
		t.Errorf("%v and %v are not neighbours", below, above)
	}
	if new(big.Int).Add(below.Denom(), above.Denom()).Cmp(most) <= 0 {
		t.Errorf("the mediant of %v and %v has a denominator of at most %v", below, above, most)
	}
}

func TestBelowAndAboveOfLongNumbers(t *testing.T) {
	s := source(9)
	check := func(a api.Rat) {
		den, one := value(a).Denom(), big.NewInt(1)
		for most := new(big.Int).Sub(den, one); most.Sign() > 0; most.Rsh(most, uint(1+s.below(20))) {
			checkAround(t, a, most)
		}
	}
	for range 100 {
		check(s.number(12))
	}
	check(s.number(100))
	check(fibonacci(400))
	check(fibonacci(401))
}

// The greatest denominators around those of the convergents, where the number of terms changes, and around those of the numbers between two convergents.
func TestBelowAndAboveAtConvergents(t *testing.T) {
	s := source(4)
	for range 60 {
		a := s.number(4)
		den, old := value(a).Denom(), big.NewInt(0)
		for _, c := range approx.Convergents(a) {
			q := value(c).Denom()
			for factor := range int64(4) {
				for by := int64(-1); by <= 1; by++ {
					most := new(big.Int).Mul(q, big.NewInt(factor))
					most.Add(most.Add(most, old), big.NewInt(by))
					if most.Sign() > 0 && most.Cmp(den) < 0 {
						checkAround(t, a, most)
					}
				}
			}
			old = q
		}
	}
}

// Consequences

// No number with a permitted denominator lies between the results, unless it is a itself.
func TestNothingBetweenBelowAndAbove(t *testing.T) {
	for _, a := range fractions(10) {
		for most := 1; most <= 12; most++ {
			first, _ := approx.Below(a, whole(most))
			second, _ := approx.Above(a, whole(most))
			below, above := value(first), value(second)
			for _, other := range fractions(most) {
				v := value(other)
				if v.Cmp(below) > 0 && v.Cmp(above) < 0 && v.Cmp(value(a)) != 0 {
					t.Errorf("%v is between Below and Above of %v and %d, which are %v and %v", v, value(a), most, below, above)
				}
			}
		}
	}
}
