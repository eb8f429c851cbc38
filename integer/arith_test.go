package integer_test

import (
	"math/big"
	"testing"

	"gridmarket/api"
	"gridmarket/integer"
)

// P2.2

func TestNegAndAbs(t *testing.T) {
	for _, a := range samples() {
		wantValue(t, "Neg", integer.Neg(a), new(big.Int).Neg(value(a)))
		wantValue(t, "Abs", integer.Abs(a), new(big.Int).Abs(value(a)))
	}
	want(t, "Neg of 0", integer.Neg(pos(0)), pos())
	want(t, "Neg of a negated 0", integer.Neg(neg()), pos())
	want(t, "Abs of a negated 0", integer.Abs(neg(0)), pos())
}

func TestSumDifferenceProduct(t *testing.T) {
	pairs(func(a, b api.Int) {
		wantValue(t, "Add", integer.Add(a, b), new(big.Int).Add(value(a), value(b)))
		wantValue(t, "Sub", integer.Sub(a, b), new(big.Int).Sub(value(a), value(b)))
		wantValue(t, "Mul", integer.Mul(a, b), new(big.Int).Mul(value(a), value(b)))
	})
	want(t, "a negated 0 and 5", integer.Add(neg(0), pos(5, 0)), pos(5))
	want(t, "-5 and 5", integer.Add(neg(5), pos(5)), pos())
	want(t, "-5 less -5", integer.Sub(neg(5), neg(5, 0)), pos())
	want(t, "-5 times 0", integer.Mul(neg(5), pos(0)), pos())
}

// Results depend on values only: another form of the same arguments changes nothing.
func TestFormsOfArguments(t *testing.T) {
	pairs(func(a, b api.Int) {
		x, y := canonical(value(a)), canonical(value(b))
		want(t, "Add", integer.Add(a, b), integer.Add(x, y))
		want(t, "GCD", integer.GCD(a, b), integer.GCD(x, y))
		g, p, q := integer.Extended(a, b)
		g2, p2, q2 := integer.Extended(x, y)
		want(t, "the divisor of Extended", g, g2)
		want(t, "the first factor of Extended", p, p2)
		want(t, "the second factor of Extended", q, q2)
	})
}

// P2.3

func wantDivision(t *testing.T, a, b, quotient, rest api.Int) {
	t.Helper()
	q, r, ok := integer.DivMod(a, b)
	if !ok || !equal(q, quotient) || !equal(r, rest) {
		t.Errorf("DivMod(%v, %v): got %v, %v, %v, want %v, %v", a, b, q, r, ok, quotient, rest)
	}
}

func TestDivMod(t *testing.T) {
	pairs(func(a, b api.Int) {
		if value(b).Sign() != 0 {
			q, r := new(big.Int).DivMod(value(a), value(b), new(big.Int))
			wantDivision(t, a, b, canonical(q), canonical(r))
		}
	})
}

func TestDivModSigns(t *testing.T) {
	wantDivision(t, pos(7), pos(2), pos(3), pos(1))
	wantDivision(t, neg(7), pos(2), neg(4), pos(1))
	wantDivision(t, pos(7), neg(2), neg(3), pos(1))
	wantDivision(t, neg(7), neg(2), pos(4), pos(1))
	wantDivision(t, neg(6), pos(2), neg(3), pos())
	wantDivision(t, neg(6), neg(2), pos(3), pos())
	wantDivision(t, neg(1), pos(top, top), neg(1), pos(top-1, top))
	wantDivision(t, neg(1), neg(2), pos(1), pos(1))
	wantDivision(t, pos(1), neg(2), pos(), pos(1))
	wantDivision(t, neg(0), neg(2), pos(), pos())
	wantDivision(t, neg(7, 0), pos(2, 0), neg(4), pos(1))
}

func TestDivModByZero(t *testing.T) {
	for _, a := range samples() {
		for _, zero := range []api.Int{pos(), neg(), pos(0), neg(0), neg(0, 0)} {
			q, r, ok := integer.DivMod(a, zero)
			if ok || !equal(q, api.Int{}) || !equal(r, api.Int{}) {
				t.Errorf("DivMod(%v, %v): got %v, %v, %v, want zero values", a, zero, q, r, ok)
			}
		}
	}
}
