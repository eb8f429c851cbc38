package approx_test

import (
	"math/big"
	"slices"
	"testing"

	"gridmarket/api"
	"gridmarket/approx"
	"gridmarket/rational"
)

// P5.1

// bigContinued is the continued fraction of v, as the chapter defines it.
func bigContinued(v *big.Rat) []*big.Int {
	floor := bigFloor(v)
	l := []*big.Int{floor}
	for !v.IsInt() {
		v = new(big.Rat).Inv(new(big.Rat).Sub(v, new(big.Rat).SetInt(floor)))
		floor = bigFloor(v)
		l = append(l, floor)
	}
	return l
}

// bigValue is the value of a list, as the chapter defines it, or nil if it does not exist.
func bigValue(l []*big.Int) *big.Rat {
	if len(l) == 0 {
		return nil
	}
	first := new(big.Rat).SetInt(l[0])
	if len(l) == 1 {
		return first
	}
	rest := bigValue(l[1:])
	if rest == nil || rest.Sign() == 0 {
		return nil
	}
	return first.Add(first, rest.Inv(rest))
}

func wantContinued(t *testing.T, a api.Rat, expected []api.Int) {
	t.Helper()
	if got := approx.Continued(a); !slices.EqualFunc(got, expected, equalInt) {
		t.Errorf("Continued(%v): got %v, want %v", a, got, expected)
	}
}

func canonicalInts(values []*big.Int) []api.Int {
	l := make([]api.Int, len(values))
	for i, v := range values {
		l[i] = canonicalInt(v)
	}
	return l
}

func TestContinued(t *testing.T) {
	for _, a := range numbers() {
		wantContinued(t, a, canonicalInts(bigContinued(value(a))))
	}
}

func TestContinuedByHand(t *testing.T) {
	for _, zero := range zeros() {
		wantContinued(t, zero, terms(0))
	}
	wantContinued(t, frac(5, 1), terms(5))
	wantContinued(t, frac(-5, 1), terms(-5))
	wantContinued(t, frac(12, 4), terms(3))
	wantContinued(t, frac(-12, 4), terms(-3))
	wantContinued(t, frac(1, 2), terms(0, 2))
	wantContinued(t, frac(-1, 2), terms(-1, 2))
	wantContinued(t, frac(-1, 3), terms(-1, 1, 2))
	wantContinued(t, frac(-7, 2), terms(-4, 2))
	wantContinued(t, frac(-415, 93), terms(-5, 1, 1, 6, 7))
	wantContinued(t, frac(830, 186), terms(4, 2, 6, 7))
	wantContinued(t, api.Rat{Num: neg(7, 0), Den: n(2, 0, 0)}, terms(-4, 2))
	wantContinued(t, api.Rat{Num: pos(1), Den: n(0, 0, 1)}, []api.Int{pos(), pos(0, 0, 1)})
	wantContinued(t, api.Rat{Num: neg(1), Den: n(0, 0, 1)}, []api.Int{neg(1), pos(1), pos(top, top)})
	wantContinued(t, api.Rat{Num: neg(1, 0, 0, 1), Den: n(0, 0, 1)}, []api.Int{neg(1, 1), pos(1), pos(top, top)})
}

// Only the first element may be less than 1, and only a list of one element may end with 1.
func TestElementsOfContinued(t *testing.T) {
	for _, a := range numbers() {
		l := approx.Continued(a)
		for i, term := range l {
			least := int64(1)
			if i == len(l)-1 {
				least = 2
			}
			if i > 0 && bigInt(term).Cmp(big.NewInt(least)) < 0 {
				t.Errorf("Continued(%v): got %v", a, l)
			}
		}
	}
}

// checkValue reports an error if FromContinued does not return the value of a list, or none if there is none.
func checkValue(t *testing.T, l []api.Int) {
	t.Helper()
	values := make([]*big.Int, len(l))
	for i, term := range l {
		values[i] = bigInt(term)
	}
	got, ok := approx.FromContinued(l)
	if expected := bigValue(values); expected != nil {
		wantValue(t, "FromContinued", got, ok, expected)
	} else {
		wantNone(t, "FromContinued without a value", got, ok)
	}
}

// All lists of at most six elements from -2 to 2, in two forms.
func TestFromContinued(t *testing.T) {
	var extend func(l []api.Int)
	extend = func(l []api.Int) {
		checkValue(t, l)
		other := make([]api.Int, len(l))
		for i, term := range l {
			other[i] = looseInt(term)
		}
		checkValue(t, other)
		for v := -2; v <= 2 && len(l) < 6; v++ {
			extend(append(slices.Clone(l), whole(v)))
		}
	}
	extend(nil)
}

func TestFromContinuedOfLongLists(t *testing.T) {
	s := source(5)
	for length := range 60 {
		for _, longest := range []int{1, 3, 20} {
			l := make([]api.Int, length)
			for i := range l {
				l[i] = s.integer(longest)
			}
			checkValue(t, l)
		}
	}
}

func TestFromContinuedByHand(t *testing.T) {
	check := func(expected api.Rat, l ...api.Int) {
		t.Helper()
		got, ok := approx.FromContinued(l)
		want(t, "FromContinued", got, ok, expected)
	}
	check(frac(0, 1), pos())
	check(frac(0, 1), neg(0, 0))
	check(frac(-7, 1), neg(7, 0))
	check(api.Rat{Num: neg(0, 0, 3), Den: n(1)}, neg(0, 0, 3, 0))
	check(frac(1, 2), terms(0, 2)...)
	check(frac(-7, 3), terms(-2, -3)...)
	check(frac(-1, 1), terms(0, -1)...)
	check(frac(0, 1), terms(1, -1)...)
	check(frac(3, 1), terms(0, 0, 3)...)
	check(frac(7, 1), terms(5, 0, 2)...)
	check(frac(0, 1), terms(1, 0, -1)...)
	check(frac(7, 2), terms(3, 1, 1)...)
	check(frac(415, 93), terms(4, 2, 6, 7)...)
	check(frac(415, 93), terms(4, 2, 6, 6, 1)...)
	check(frac(3, 2), pos(1, 0), pos(2, 0, 0))
}

func TestFromContinuedWithoutValue(t *testing.T) {
	for _, l := range [][]api.Int{
		nil, {}, terms(0, 0), terms(5, 0), terms(-5, 0), terms(5, 1, 0), terms(1, 2, 3, 0), terms(5, 0, 0),
		terms(1, 1, -1), terms(1, -1, 1), terms(4, 2, -1, 2), {whole(5), neg(0)}, {whole(5), pos(0, 0)}, {whole(5), pos(1, 0), neg(1, 0, 0)},
		// The value of a rest does not exist; with an infinite one in its place, the lists would have the values 2, 2 and 3.
		terms(2, 1, 1, -1), terms(2, 5, 0), terms(3, 4, 1, -1),
	} {
		got, ok := approx.FromContinued(l)
		wantNone(t, "FromContinued without a value", got, ok)
	}
}

// wantConvergents reports an error if Convergents does not return the expected numbers.
func wantConvergents(t *testing.T, a api.Rat, expected []api.Rat) {
	t.Helper()
	if got := approx.Convergents(a); !slices.EqualFunc(got, expected, equal) {
		t.Errorf("Convergents(%v): got %v, want %v", a, got, expected)
	}
}

func TestConvergents(t *testing.T) {
	for _, a := range numbers() {
		l := bigContinued(value(a))
		if len(l) > 100 {
			continue
		}
		var expected []api.Rat
		for length := range len(l) {
			expected = append(expected, canonical(bigValue(l[:length+1])))
		}
		wantConvergents(t, a, expected)
	}
}

func TestConvergentsByHand(t *testing.T) {
	for _, zero := range zeros() {
		wantConvergents(t, zero, []api.Rat{frac(0, 1)})
	}
	wantConvergents(t, frac(-5, 1), []api.Rat{frac(-5, 1)})
	wantConvergents(t, frac(12, 4), []api.Rat{frac(3, 1)})
	wantConvergents(t, frac(2, 4), []api.Rat{frac(0, 1), frac(1, 2)})
	wantConvergents(t, frac(-1, 3), []api.Rat{frac(-1, 1), frac(0, 1), frac(-1, 3)})
	wantConvergents(t, frac(-7, 2), []api.Rat{frac(-4, 1), frac(-7, 2)})
	wantConvergents(t, api.Rat{Num: neg(1), Den: n(0, 0, 1)}, []api.Rat{frac(-1, 1), frac(0, 1), {Num: neg(1), Den: n(0, 0, 1)}})
}

// The convergents of a quotient in Fibonacci's sequence are the earlier quotients without the last of them, because the last element is 2 in place of 1 and 1.
func TestConvergentsOfLongNumbers(t *testing.T) {
	for _, index := range []int{100, 101, 1000} {
		all := approx.Convergents(fibonacci(index))
		for i, got := range all[:len(all)-1] {
			want(t, "a convergent", got, true, fibonacci(i))
		}
		want(t, "the last convergent", all[len(all)-1], true, fibonacci(index))
	}
}

// Consequences

func TestContinuedIsReadBack(t *testing.T) {
	for _, a := range append(numbers(), fibonacci(4000)) {
		got, ok := approx.FromContinued(approx.Continued(a))
		want(t, "FromContinued(Continued(a))", got, ok, rational.Norm(a))
	}
}

func TestExamples(t *testing.T) {
	wantContinued(t, frac(415, 93), terms(4, 2, 6, 7))
	wantConvergents(t, frac(415, 93), []api.Rat{frac(4, 1), frac(9, 2), frac(58, 13), frac(415, 93)})
	wantSimplest(t, frac(3, 10), frac(2, 5), frac(1, 3))
	wantSimplest(t, frac(-1, 2), frac(1, 3), frac(0, 1))
	wantAround(t, frac(355, 113), whole(10), frac(25, 8), frac(22, 7))
}
