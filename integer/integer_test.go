package integer_test

import (
	"math"
	"math/big"
	"testing"

	"gridmarket/api"
	"gridmarket/integer"
)

// P2.1

func TestNorm(t *testing.T) {
	for _, a := range samples() {
		wantValue(t, "Norm", integer.Norm(a), value(a))
	}
	want(t, "Norm of a negated 0", integer.Norm(neg(0, 0)), pos())
	want(t, "Norm of a negated 0 without limbs", integer.Norm(neg()), pos())
	want(t, "Norm of -5", integer.Norm(neg(5, 0, 0)), neg(5))
}

// ints are values of the type int, at its borders and at those of 32 bits.
func ints() []int {
	return []int{
		0, 1, -1, 2, -2, 1000003, -1000003, math.MaxInt32, math.MinInt32, math.MaxUint32, -math.MaxUint32, 1 << 32, -1 << 32,
		math.MaxInt - 1, math.MaxInt, math.MinInt + 1, math.MinInt,
	}
}

func TestFromInt(t *testing.T) {
	for _, v := range ints() {
		wantValue(t, "FromInt", integer.FromInt(v), big.NewInt(int64(v)))
	}
	want(t, "FromInt of the least int", integer.FromInt(math.MinInt), neg(0, 1<<31))
	want(t, "FromInt of 0", integer.FromInt(0), pos())
}

func TestValue(t *testing.T) {
	for _, a := range samples() {
		expected, fits := 0, value(a).IsInt64()
		if fits {
			expected = int(value(a).Int64())
		}
		if got, ok := integer.Value(a); ok != fits || got != expected {
			t.Errorf("Value(%v): got %d, %v, want %d, %v", a, got, ok, expected, fits)
		}
	}
	for _, v := range ints() {
		if got, ok := integer.Value(integer.FromInt(v)); !ok || got != v {
			t.Errorf("Value(FromInt(%d)): got %d, %v", v, got, ok)
		}
	}
}

func TestValueAtTheBorders(t *testing.T) {
	cases := []struct {
		a        api.Int
		expected int
		fits     bool
	}{
		{pos(top, 1<<31-1), math.MaxInt, true},
		{pos(top, 1<<31-1, 0), math.MaxInt, true},
		{neg(top, 1<<31-1), -math.MaxInt, true},
		{pos(0, 1<<31), 0, false},
		{neg(0, 1<<31), math.MinInt, true},
		{neg(0, 1<<31, 0), math.MinInt, true},
		{neg(1, 1<<31), 0, false},
		{pos(top, top), 0, false},
		{neg(top, top), 0, false},
		{pos(0, 0, 1), 0, false},
		{neg(0, 0, 1), 0, false},
		{pos(5, 0, 1), 0, false},
	}
	for _, c := range cases {
		if got, ok := integer.Value(c.a); got != c.expected || ok != c.fits {
			t.Errorf("Value(%v): got %d, %v, want %d, %v", c.a, got, ok, c.expected, c.fits)
		}
	}
}

func TestSign(t *testing.T) {
	for _, a := range samples() {
		if got := integer.Sign(a); got != value(a).Sign() {
			t.Errorf("Sign(%v): got %d, want %d", a, got, value(a).Sign())
		}
	}
	if got := integer.Sign(neg(0)); got != 0 {
		t.Errorf("Sign of a negated 0: got %d", got)
	}
}

func TestCompare(t *testing.T) {
	pairs(func(a, b api.Int) {
		if got := integer.Compare(a, b); got != value(a).Cmp(value(b)) {
			t.Errorf("Compare(%v, %v): got %d, want %d", a, b, got, value(a).Cmp(value(b)))
		}
	})
	if got := integer.Compare(neg(0), pos()); got != 0 {
		t.Errorf("Compare of a negated 0 and 0: got %d", got)
	}
}
