package integer_test

import (
	"math/big"
	"testing"

	"gridmarket/api"
	"gridmarket/integer"
)

// P2.4

// divisor is the greatest common divisor; that of the standard library takes no signs into account.
func divisor(a, b api.Int) *big.Int {
	return new(big.Int).GCD(nil, nil, new(big.Int).Abs(value(a)), new(big.Int).Abs(value(b)))
}

func TestGCD(t *testing.T) {
	pairs(func(a, b api.Int) { wantValue(t, "GCD", integer.GCD(a, b), divisor(a, b)) })
	want(t, "GCD of 0 and a negated 0", integer.GCD(pos(0), neg(0)), pos())
	want(t, "GCD of -12 and 0", integer.GCD(neg(12), pos()), pos(12))
	want(t, "GCD of 0 and -12", integer.GCD(pos(), neg(12)), pos(12))
	want(t, "GCD of -12 and -18", integer.GCD(neg(12), neg(18)), pos(6))
}

// checkExtended reports an error if the results are not canonical, are no solution, or are too great.
func checkExtended(t *testing.T, a, b api.Int) {
	t.Helper()
	g, x, y := integer.Extended(a, b)
	wantValue(t, "the divisor of Extended", g, divisor(a, b))
	wantValue(t, "the first factor of Extended", x, value(x))
	wantValue(t, "the second factor of Extended", y, value(y))
	sum := new(big.Int).Mul(value(a), value(x))
	sum.Add(sum, new(big.Int).Mul(value(b), value(y)))
	if sum.Cmp(value(g)) != 0 {
		t.Errorf("Extended(%v, %v): %v and %v do not give %v", a, b, x, y, g)
	}
	if !smallFactors(value(a), value(b), value(g), value(x), value(y)) {
		t.Errorf("Extended(%v, %v): %v and %v are too great", a, b, x, y)
	}
}

// smallFactors says whether x and y are within the bounds that the chapter gives.
func smallFactors(a, b, g, x, y *big.Int) bool {
	one := big.NewInt(1)
	switch {
	case b.Sign() == 0:
		return y.Sign() == 0 && x.CmpAbs(one) <= 0
	case a.Sign() == 0:
		return x.Sign() == 0 && y.CmpAbs(one) == 0
	}
	return x.CmpAbs(new(big.Int).Quo(b, g)) <= 0 && y.CmpAbs(new(big.Int).Quo(a, g)) <= 0
}

func TestExtended(t *testing.T) {
	pairs(func(a, b api.Int) { checkExtended(t, a, b) })
	for a := -40; a <= 40; a++ {
		for b := -40; b <= 40; b++ {
			checkExtended(t, integer.FromInt(a), integer.FromInt(b))
		}
	}
}

func TestExtendedWithZero(t *testing.T) {
	for _, zero := range []api.Int{pos(), neg(), pos(0), neg(0, 0)} {
		checkExtended(t, zero, pos())
		checkExtended(t, zero, neg(0))
		for _, a := range []api.Int{pos(1), neg(1), pos(12, 0), neg(12), pos(0, 0, 5), neg(0, 0, 5)} {
			checkExtended(t, a, zero)
			checkExtended(t, zero, a)
		}
	}
}

func TestExtendedOfEqualAndOpposite(t *testing.T) {
	s := source(5)
	for range 200 {
		a := s.number(8)
		opposite := api.Int{Neg: !a.Neg, Mag: a.Mag}
		double := canonical(new(big.Int).Lsh(value(a), 1))
		for _, b := range []api.Int{a, opposite, double} {
			checkExtended(t, a, b)
			checkExtended(t, b, a)
		}
	}
}

// Numbers with a long common divisor, and neighbours in Fibonacci's sequence, which need the most steps.
func TestExtendedOfLongNumbers(t *testing.T) {
	s := source(11)
	for range 40 {
		common, a, b := value(s.number(30)), value(s.number(30)), value(s.number(30))
		checkExtended(t, canonical(a.Mul(a, common)), canonical(b.Mul(b, common)))
	}
	a, b := big.NewInt(1), big.NewInt(1)
	for range 2000 {
		a, b = b, new(big.Int).Add(a, b)
	}
	checkExtended(t, canonical(a), canonical(b))
	checkExtended(t, canonical(new(big.Int).Neg(b)), canonical(a))
}

func TestExamples(t *testing.T) {
	wantDivision(t, integer.FromInt(-7), integer.FromInt(2), integer.FromInt(-4), integer.FromInt(1))
	wantDivision(t, integer.FromInt(-7), integer.FromInt(-2), integer.FromInt(4), integer.FromInt(1))
	g, _, _ := integer.Extended(pos(12), pos(18))
	want(t, "the divisor of 12 and 18", g, pos(6))
	checkExtended(t, pos(12), pos(18))
	want(t, "a negated 0 and 5", integer.Add(neg(0), pos(5, 0)), pos(5))
}
