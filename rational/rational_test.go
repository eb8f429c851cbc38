package rational_test

import (
	"math"
	"math/big"
	"testing"

	"gridmarket/api"
	"gridmarket/rational"
)

// P3.1

// zeros are numbers with the value 0: with the numerator 0, and with a denominator that has the value 0.
func zeros() []api.Rat {
	return []api.Rat{
		{}, {Den: n(1)}, {Num: pos(0), Den: n(5)}, {Num: neg(), Den: n(7)}, {Num: neg(0, 0), Den: n(0, 0, 9)}, {Num: neg(0), Den: n(0)},
		{Num: pos(7)}, {Num: neg(7), Den: n()}, {Num: pos(3), Den: n(0)}, {Num: neg(top, top, top), Den: n(0, 0, 0)}, {Num: pos(0), Den: n(top, top, top)},
	}
}

func TestNorm(t *testing.T) {
	each(func(a api.Rat) { wantValue(t, "Norm", rational.Norm(a), value(a)) })
	want(t, "Norm of -6/4", rational.Norm(frac(-6, 4)), api.Rat{Num: neg(3), Den: n(2)})
	want(t, "Norm with zeros above", rational.Norm(api.Rat{Num: pos(9, 0), Den: n(6, 0, 0)}), api.Rat{Num: pos(3), Den: n(2)})
	want(t, "Norm of a long fraction", rational.Norm(api.Rat{Num: neg(0, 0, 6), Den: n(0, 0, 4)}), api.Rat{Num: neg(3), Den: n(2)})
	for _, a := range zeros() {
		want(t, "Norm of 0", rational.Norm(a), api.Rat{Den: n(1)})
	}
}

// ints are values of the type int, at its borders and at those of 31 and 32 bits.
func ints() []int {
	return []int{
		0, 1, -1, 2, -2, 12, -18, math.MaxInt32, -math.MaxInt32, math.MinInt32, 1 << 31, math.MaxUint32, -math.MaxUint32, 1 << 32, -1 << 32,
		1 << 62, -1 << 62, math.MaxInt - 1, math.MaxInt, math.MinInt + 1, math.MinInt,
	}
}

func TestFromInt(t *testing.T) {
	for _, v := range ints() {
		wantValue(t, "FromInt", rational.FromInt(v), new(big.Rat).SetInt64(int64(v)))
	}
	want(t, "FromInt of 0", rational.FromInt(0), api.Rat{Den: n(1)})
	want(t, "FromInt of the least int", rational.FromInt(math.MinInt), api.Rat{Num: neg(0, 1<<31), Den: n(1)})
}

func TestFromFrac(t *testing.T) {
	for _, num := range ints() {
		want(t, "FromFrac with the denominator 0", rational.FromFrac(api.Frac{Num: num}), api.Rat{Den: n(1)})
		for _, den := range ints() {
			if den != 0 {
				wantValue(t, "FromFrac", rational.FromFrac(api.Frac{Num: num, Den: den}), big.NewRat(int64(num), int64(den)))
			}
		}
	}
	least := math.MinInt
	want(t, "FromFrac of the least int", rational.FromFrac(api.Frac{Num: least, Den: -1}), api.Rat{Num: pos(0, 1<<31), Den: n(1)})
	want(t, "FromFrac by the least int", rational.FromFrac(api.Frac{Num: 6, Den: least}), api.Rat{Num: neg(3), Den: n(0, 1<<30)})
	want(t, "FromFrac of the least int by itself", rational.FromFrac(api.Frac{Num: least, Den: least}), api.Rat{Num: pos(1), Den: n(1)})
	want(t, "FromFrac of 0 by a negative number", rational.FromFrac(api.Frac{Num: 0, Den: -5}), api.Rat{Den: n(1)})
}

func wantNew(t *testing.T, num, den api.Int, expected api.Rat) {
	t.Helper()
	got, ok := rational.New(num, den)
	if !ok || !equal(got, expected) {
		t.Errorf("New(%v, %v): got %v, %v, want %v", num, den, got, ok, expected)
	}
}

func TestNew(t *testing.T) {
	for _, a := range samples() {
		for _, den := range []api.Int{pos(a.Den...), neg(a.Den...)} {
			if bigInt(den).Sign() == 0 {
				got, ok := rational.New(a.Num, den)
				wantNone(t, "New by 0", got, ok)
				continue
			}
			wantNew(t, a.Num, den, canonical(new(big.Rat).SetFrac(bigInt(a.Num), bigInt(den))))
		}
	}
}

func TestNewSigns(t *testing.T) {
	wantNew(t, pos(6), pos(4), api.Rat{Num: pos(3), Den: n(2)})
	wantNew(t, neg(6), pos(4), api.Rat{Num: neg(3), Den: n(2)})
	wantNew(t, pos(6), neg(4), api.Rat{Num: neg(3), Den: n(2)})
	wantNew(t, neg(6), neg(4), api.Rat{Num: pos(3), Den: n(2)})
	wantNew(t, pos(0, 0, 6), neg(0, 0, 4, 0), api.Rat{Num: neg(3), Den: n(2)})
	wantNew(t, pos(0), neg(4), api.Rat{Den: n(1)})
	wantNew(t, neg(0), neg(4, 0, 1), api.Rat{Den: n(1)})
}

func TestSign(t *testing.T) {
	each(func(a api.Rat) {
		if got := rational.Sign(a); got != value(a).Sign() {
			t.Errorf("Sign(%v): got %d, want %d", a, got, value(a).Sign())
		}
	})
	for _, a := range zeros() {
		if got := rational.Sign(a); got != 0 {
			t.Errorf("Sign(%v): got %d, want 0", a, got)
		}
	}
}

func TestCompare(t *testing.T) {
	pairs(func(a, b api.Rat) {
		if got, expected := rational.Compare(a, b), value(a).Cmp(value(b)); got != expected {
			t.Errorf("Compare(%v, %v): got %d, want %d", a, b, got, expected)
		}
	})
	for _, a := range zeros() {
		for _, b := range zeros() {
			if got := rational.Compare(a, b); got != 0 {
				t.Errorf("Compare(%v, %v): got %d, want 0", a, b, got)
			}
		}
		if rational.Compare(a, frac(-1, 9)) != 1 || rational.Compare(a, frac(1, 9)) != -1 {
			t.Errorf("Compare(%v, -1/9) or with 1/9 is wrong", a)
		}
	}
}

func TestMinAndMax(t *testing.T) {
	pairs(func(a, b api.Rat) {
		lesser, greater := value(a), value(b)
		if lesser.Cmp(greater) > 0 {
			lesser, greater = greater, lesser
		}
		wantValue(t, "Min", rational.Min(a, b), lesser)
		wantValue(t, "Max", rational.Max(a, b), greater)
	})
}

func TestMinAndMaxOfEqualValues(t *testing.T) {
	halves := []api.Rat{frac(1, 2), frac(3, 6), {Num: pos(0, 0, 7), Den: n(0, 0, 14, 0)}}
	for _, forms := range [][]api.Rat{zeros(), halves} {
		expected := rational.Norm(forms[0])
		for _, a := range forms {
			for _, b := range forms {
				want(t, "Min of equal values", rational.Min(a, b), expected)
				want(t, "Max of equal values", rational.Max(a, b), expected)
			}
		}
	}
}

// Two numbers have the same value if and only if their canonical forms are equal.
func TestCanonicalFormsOfEqualValues(t *testing.T) {
	pairs(func(a, b api.Rat) {
		same := equal(rational.Norm(a), rational.Norm(b))
		if (rational.Compare(a, b) == 0) != same || (value(a).Cmp(value(b)) == 0) != same {
			t.Errorf("%v and %v: Compare and Norm disagree", a, b)
		}
	})
}

// P3.4

func TestSize(t *testing.T) {
	each(func(a api.Rat) {
		v := value(a)
		if got, expected := rational.Size(a), v.Num().BitLen()+v.Denom().BitLen(); got != expected {
			t.Errorf("Size(%v): got %d, want %d", a, got, expected)
		}
	})
	cases := []struct {
		a        api.Rat
		expected int
	}{
		{frac(0, 1), 1}, {frac(1, 1), 2}, {frac(-7, 1), 4}, {frac(6, 4), 4}, {frac(5, 0), 1}, {api.Rat{Num: neg(0, 0, 1), Den: n(0, 1)}, 34},
		{api.Rat{Num: pos(1), Den: n(0, 0, 1, 0)}, 66},
	}
	for _, c := range cases {
		if got := rational.Size(c.a); got != c.expected {
			t.Errorf("Size(%v): got %d, want %d", c.a, got, c.expected)
		}
	}
}
