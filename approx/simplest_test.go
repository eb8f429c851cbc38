package approx_test

import (
	"math/big"
	"testing"

	"gridmarket/api"
	"gridmarket/approx"
)

// P5.2

func wantSimplest(t *testing.T, lo, hi, expected api.Rat) {
	t.Helper()
	got, ok := approx.Simplest(lo, hi)
	if !ok || !equal(got, expected) {
		t.Errorf("Simplest(%v, %v): got %v, %v, want %v", lo, hi, got, ok, expected)
	}
}

// bigSimplest is found by trying all denominators.
func bigSimplest(lo, hi *big.Rat) *big.Rat {
	for den := int64(1); ; den++ {
		scale := new(big.Rat).SetInt64(den)
		least, most := bigCeil(new(big.Rat).Mul(lo, scale)), bigFloor(new(big.Rat).Mul(hi, scale))
		if least.Cmp(most) > 0 {
			continue
		}
		num := new(big.Int)
		if least.Sign() > 0 {
			num = least
		} else if most.Sign() < 0 {
			num = most
		}
		return new(big.Rat).SetFrac(num, big.NewInt(den))
	}
}

// fractions are all fractions of small parts, with the denominator 0 too, in lowest terms and not.
func fractions(most int) []api.Rat {
	var all []api.Rat
	for den := range most + 1 {
		for num := -2 * den; num <= 2*den; num++ {
			all = append(all, frac(num, den))
		}
	}
	return all
}

func TestSimplest(t *testing.T) {
	for _, lo := range fractions(11) {
		for _, hi := range fractions(11) {
			got, ok := approx.Simplest(lo, hi)
			if value(lo).Cmp(value(hi)) > 0 {
				wantNone(t, "Simplest of an empty range", got, ok)
				continue
			}
			wantSimplest(t, lo, hi, canonical(bigSimplest(value(lo), value(hi))))
		}
	}
}

func TestSimplestOfShortRanges(t *testing.T) {
	s := source(3)
	for range 3000 {
		lo := value(frac(s.below(2000)-1000, 1+s.below(200)))
		hi := new(big.Rat).Add(lo, big.NewRat(int64(s.below(5)), int64(1+s.below(2000))))
		wantSimplest(t, loose(canonical(lo)), loose(canonical(hi)), canonical(bigSimplest(lo, hi)))
	}
}

func TestSimplestByHand(t *testing.T) {
	// 0 in the range
	wantSimplest(t, frac(-5, 1), frac(7, 1), frac(0, 1))
	wantSimplest(t, frac(0, 1), frac(7, 2), frac(0, 1))
	wantSimplest(t, frac(-7, 2), frac(0, 1), frac(0, 1))
	wantSimplest(t, frac(9, 0), frac(7, 0), frac(0, 1))
	// integers of one sign
	wantSimplest(t, frac(1, 9), frac(7, 2), frac(1, 1))
	wantSimplest(t, frac(5, 2), frac(9, 2), frac(3, 1))
	wantSimplest(t, frac(3, 1), frac(9, 2), frac(3, 1))
	wantSimplest(t, frac(5, 2), frac(3, 1), frac(3, 1))
	wantSimplest(t, frac(2, 1), frac(3, 1), frac(2, 1))
	wantSimplest(t, frac(-9, 2), frac(-5, 2), frac(-3, 1))
	wantSimplest(t, frac(-9, 2), frac(-3, 1), frac(-3, 1))
	wantSimplest(t, frac(-3, 1), frac(-5, 2), frac(-3, 1))
	wantSimplest(t, frac(-7, 2), frac(-1, 9), frac(-1, 1))
	// no integer
	wantSimplest(t, frac(1, 3), frac(1, 2), frac(1, 2))
	wantSimplest(t, frac(1, 7), frac(4, 9), frac(1, 3))
	wantSimplest(t, frac(10, 7), frac(3, 2), frac(3, 2))
	wantSimplest(t, frac(4, 3), frac(10, 7), frac(4, 3))
	wantSimplest(t, frac(-3, 2), frac(-10, 7), frac(-3, 2))
	wantSimplest(t, frac(-2, 5), frac(-3, 10), frac(-1, 3))
	wantSimplest(t, frac(314, 100), frac(315, 100), frac(22, 7))
	wantSimplest(t, frac(-315, 100), frac(-314, 100), frac(-22, 7))
}

func TestSimplestOfEmptyRanges(t *testing.T) {
	long := api.Rat{Num: pos(1), Den: n(0, 0, 0, 1)}
	for _, ends := range [][2]api.Rat{
		{frac(2, 1), frac(1, 1)}, {frac(1, 2), frac(1, 3)}, {frac(-1, 3), frac(-1, 2)}, {frac(1, 9), frac(-1, 9)},
		{long, frac(0, 1)}, {frac(4, 0), canonical(new(big.Rat).Neg(value(long)))}, {loose(frac(1, 2)), loose(frac(1, 3))},
	} {
		got, ok := approx.Simplest(ends[0], ends[1])
		wantNone(t, "Simplest of an empty range", got, ok)
	}
}

func TestSimplestOfOneNumber(t *testing.T) {
	for _, a := range numbers() {
		expected := canonical(value(a))
		wantSimplest(t, a, a, expected)
		wantSimplest(t, a, expected, expected)
		wantSimplest(t, loose(a), a, expected)
	}
}

// parents are the numbers between which v, which is not an integer, has the least denominator. All other numbers between them have a greater one.
func parents(v *big.Rat) (left, right *big.Rat) {
	p, q := v.Num(), v.Denom()
	// left = l / m with p m - q l = 1 and m < q
	m := new(big.Int).ModInverse(p, q)
	l := new(big.Int).Mul(p, m)
	l.Div(l.Sub(l, big.NewInt(1)), q)
	left = new(big.Rat).SetFrac(l, m)
	return left, new(big.Rat).SetFrac(new(big.Int).Sub(p, l), new(big.Int).Sub(q, m))
}

// checkSimplest reports an error if the result is not the simplest number of a range that contains no integer.
func checkSimplest(t *testing.T, lo, hi *big.Rat) {
	t.Helper()
	got, ok := approx.Simplest(canonical(lo), loose(canonical(hi)))
	v := value(got)
	wantValue(t, "Simplest", got, ok, v)
	if v.Cmp(lo) < 0 || v.Cmp(hi) > 0 {
		t.Errorf("Simplest(%v, %v): %v is not in the range", lo, hi, v)
		return
	}
	if left, right := parents(v); left.Cmp(lo) >= 0 || right.Cmp(hi) <= 0 {
		t.Errorf("Simplest(%v, %v): %v is not the simplest number", lo, hi, v)
	}
}

func TestSimplestOfLongNumbers(t *testing.T) {
	s := source(7)
	for range 300 {
		lo := value(s.number(12))
		width := new(big.Rat).SetFrac(bigInt(s.integer(3)), new(big.Int).Lsh(big.NewInt(1), uint(96+s.below(300))))
		hi := new(big.Rat).Add(lo, width.Abs(width))
		if bigCeil(lo).Cmp(bigFloor(hi)) > 0 {
			checkSimplest(t, lo, hi)
			checkSimplest(t, new(big.Rat).Neg(hi), new(big.Rat).Neg(lo))
		}
	}
}

// A short number is found in a narrow range around it.
func TestSimplestFindsShortNumbers(t *testing.T) {
	narrow := new(big.Rat).SetFrac(big.NewInt(1), new(big.Int).Lsh(big.NewInt(1), 3000))
	for _, v := range []*big.Rat{big.NewRat(22, 7), big.NewRat(-355, 113), big.NewRat(1, 1<<40), big.NewRat(5, 1), big.NewRat(-1, 1), new(big.Rat), value(fibonacci(150))} {
		lo, hi := new(big.Rat).Sub(v, narrow), new(big.Rat).Add(v, narrow)
		wantSimplest(t, canonical(lo), canonical(hi), canonical(v))
		wantSimplest(t, canonical(lo), canonical(v), canonical(v))
		wantSimplest(t, canonical(v), canonical(hi), canonical(v))
	}
}
