package rational_test

import (
	"math/big"
	"testing"

	"gridmarket/api"
	"gridmarket/rational"
)

// P3.2

func TestNeg(t *testing.T) {
	each(func(a api.Rat) { wantValue(t, "Neg", rational.Neg(a), new(big.Rat).Neg(value(a))) })
	for _, a := range zeros() {
		want(t, "Neg of 0", rational.Neg(a), api.Rat{Den: n(1)})
	}
}

func TestSumDifferenceProduct(t *testing.T) {
	pairs(func(a, b api.Rat) {
		wantValue(t, "Add", rational.Add(a, b), new(big.Rat).Add(value(a), value(b)))
		wantValue(t, "Sub", rational.Sub(a, b), new(big.Rat).Sub(value(a), value(b)))
		wantValue(t, "Mul", rational.Mul(a, b), new(big.Rat).Mul(value(a), value(b)))
	})
}

// The parts of these numbers are the greatest of 31 bits and the least of 32 bits, not reduced: their products are the greatest and the least ones that occur in 64 bits.
func TestArithmeticAtTheBorder(t *testing.T) {
	var all []api.Rat
	for _, num := range []uint32{1, 1<<31 - 2, 1<<31 - 1, 1 << 31, top} {
		for _, den := range []uint32{1, 1<<31 - 2, 1<<31 - 1, 1 << 31, top} {
			all = append(all, api.Rat{Num: pos(num), Den: n(den)}, api.Rat{Num: neg(num), Den: n(den)})
		}
	}
	for _, a := range all {
		for _, b := range all {
			wantValue(t, "Add", rational.Add(a, b), new(big.Rat).Add(value(a), value(b)))
			wantValue(t, "Mul", rational.Mul(a, b), new(big.Rat).Mul(value(a), value(b)))
			if got := rational.Compare(a, b); got != value(a).Cmp(value(b)) {
				t.Errorf("Compare(%v, %v): got %d", a, b, got)
			}
		}
	}
}

func TestArithmeticWithZero(t *testing.T) {
	long := api.Rat{Num: neg(5, 0, 3), Den: n(7, 0, 1)}
	for _, zero := range zeros() {
		for _, a := range []api.Rat{frac(6, 4), frac(-1, 3), long} {
			want(t, "a + 0", rational.Add(a, zero), rational.Norm(a))
			want(t, "0 + a", rational.Add(zero, a), rational.Norm(a))
			want(t, "a - 0", rational.Sub(a, zero), rational.Norm(a))
			want(t, "0 - a", rational.Sub(zero, a), rational.Neg(a))
			want(t, "a * 0", rational.Mul(a, zero), api.Rat{Den: n(1)})
			want(t, "0 * a", rational.Mul(zero, a), api.Rat{Den: n(1)})
			want(t, "a - a", rational.Sub(a, a), api.Rat{Den: n(1)})
		}
	}
}

func TestInv(t *testing.T) {
	each(func(a api.Rat) {
		got, ok := rational.Inv(a)
		if value(a).Sign() == 0 {
			wantNone(t, "Inv of 0", got, ok)
			return
		}
		wantValue(t, "Inv", got, new(big.Rat).Inv(value(a)))
		if !ok {
			t.Errorf("Inv(%v): got false", a)
		}
	})
	for _, zero := range zeros() {
		got, ok := rational.Inv(zero)
		wantNone(t, "Inv of 0", got, ok)
	}
	got, _ := rational.Inv(frac(-6, 4))
	want(t, "Inv of -6/4", got, api.Rat{Num: neg(2), Den: n(3)})
}

func TestDiv(t *testing.T) {
	pairs(func(a, b api.Rat) {
		got, ok := rational.Div(a, b)
		if value(b).Sign() == 0 {
			wantNone(t, "Div by 0", got, ok)
			return
		}
		wantValue(t, "Div", got, new(big.Rat).Quo(value(a), value(b)))
		if !ok {
			t.Errorf("Div(%v, %v): got false", a, b)
		}
	})
	for _, zero := range zeros() {
		for _, a := range append(zeros(), frac(3, 4), api.Rat{Num: neg(1, 2, 3), Den: n(7)}) {
			got, ok := rational.Div(a, zero)
			wantNone(t, "Div by 0", got, ok)
		}
		got, ok := rational.Div(zero, frac(-3, 4))
		if !ok || !equal(got, api.Rat{Den: n(1)}) {
			t.Errorf("Div(%v, -3/4): got %v, %v, want 0", zero, got, ok)
		}
	}
}

// bigDot is the sum of the products of corresponding elements.
func bigDot(a, b []api.Rat) *big.Rat {
	sum := new(big.Rat)
	for i := range a {
		sum.Add(sum, new(big.Rat).Mul(value(a[i]), value(b[i])))
	}
	return sum
}

// numbers returns a list of short and long numbers.
func (s *source) numbers(length int) []api.Rat {
	l := make([]api.Rat, length)
	for i := range l {
		if l[i] = s.small(); s.below(5) == 0 {
			l[i] = s.number(3)
		}
	}
	return l
}

func TestSum(t *testing.T) {
	s := source(5)
	for length := range 40 {
		for range 5 {
			l, sum := s.numbers(length), new(big.Rat)
			for _, a := range l {
				sum.Add(sum, value(a))
			}
			wantValue(t, "Sum", rational.Sum(l), sum)
		}
	}
	want(t, "Sum of nil", rational.Sum(nil), api.Rat{Den: n(1)})
	want(t, "Sum of an empty list", rational.Sum([]api.Rat{}), api.Rat{Den: n(1)})
	want(t, "Sum of zeros", rational.Sum(zeros()), api.Rat{Den: n(1)})
	want(t, "Sum of one number", rational.Sum([]api.Rat{frac(-6, 4)}), api.Rat{Num: neg(3), Den: n(2)})
	want(t, "Sum of one long number", rational.Sum([]api.Rat{{Num: pos(0, 0, 6), Den: n(0, 0, 4, 0)}}), api.Rat{Num: pos(3), Den: n(2)})
	for _, zero := range zeros() {
		want(t, "Sum of one 0", rational.Sum([]api.Rat{zero}), api.Rat{Den: n(1)})
	}
}

func TestDot(t *testing.T) {
	s := source(7)
	for length := range 30 {
		for range 5 {
			a, b := s.numbers(length), s.numbers(length)
			got, ok := rational.Dot(a, b)
			wantValue(t, "Dot", got, bigDot(a, b))
			if !ok {
				t.Errorf("Dot of two lists of %d elements: got false", length)
			}
		}
	}
	got, ok := rational.Dot(nil, []api.Rat{})
	if !ok || !equal(got, api.Rat{Den: n(1)}) {
		t.Errorf("Dot of empty lists: got %v, %v, want 0", got, ok)
	}
}

func TestDotOfDifferentLengths(t *testing.T) {
	l := []api.Rat{frac(1, 2), frac(3, 4), frac(0, 1), {}}
	for i := range len(l) + 1 {
		for j := range len(l) + 1 {
			got, ok := rational.Dot(l[:i], l[:j])
			if i != j {
				wantNone(t, "Dot of lists of different lengths", got, ok)
			} else if !ok {
				t.Errorf("Dot of equal lists of %d elements: got false", i)
			}
		}
	}
}

// Results depend on values only: the canonical forms of the arguments give the same.
func TestFormsOfArguments(t *testing.T) {
	pairs(func(a, b api.Rat) {
		x, y := rational.Norm(a), rational.Norm(b)
		want(t, "Add", rational.Add(a, b), rational.Add(x, y))
		want(t, "Sub", rational.Sub(a, b), rational.Sub(x, y))
		want(t, "Mul", rational.Mul(a, b), rational.Mul(x, y))
		quotient, ok := rational.Div(a, b)
		quotient2, ok2 := rational.Div(x, y)
		want(t, "Div", quotient, quotient2)
		if ok != ok2 || rational.Size(a) != rational.Size(x) {
			t.Errorf("Div(%v, %v) or Size depends on the form", a, b)
		}
	})
}

// The rational numbers form an ordered field.
func TestLawsOfAField(t *testing.T) {
	s := source(11)
	for range 500 {
		a, b, c := s.number(3), s.number(3), s.small()
		want(t, "a + b = b + a", rational.Add(a, b), rational.Add(b, a))
		want(t, "(a + b) + c = a + (b + c)", rational.Add(rational.Add(a, b), c), rational.Add(a, rational.Add(b, c)))
		want(t, "a b = b a", rational.Mul(a, b), rational.Mul(b, a))
		want(t, "(a b) c = a (b c)", rational.Mul(rational.Mul(a, b), c), rational.Mul(a, rational.Mul(b, c)))
		want(t, "a (b + c) = a b + a c", rational.Mul(a, rational.Add(b, c)), rational.Add(rational.Mul(a, b), rational.Mul(a, c)))
		want(t, "a + -a = 0", rational.Add(a, rational.Neg(a)), rational.FromInt(0))
		if inverse, ok := rational.Inv(a); ok {
			want(t, "a / a = 1", rational.Mul(a, inverse), rational.FromInt(1))
		}
		if rational.Compare(a, b) != rational.Compare(rational.Add(a, c), rational.Add(b, c)) {
			t.Errorf("adding %v changes the order of %v and %v", c, a, b)
		}
	}
}
