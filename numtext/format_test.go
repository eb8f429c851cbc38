package numtext_test

import (
	"math/big"
	"strings"
	"testing"

	"gridmarket/api"
	"gridmarket/numtext"
)

// P4.1 and P4.2: writing

func TestFormatInt(t *testing.T) {
	for _, a := range integers() {
		wantText(t, "FormatInt", numtext.FormatInt(a), bigInt(a).String())
	}
	for _, zero := range []api.Int{{}, neg(), pos(0), neg(0), neg(0, 0, 0)} {
		wantText(t, "FormatInt of 0", numtext.FormatInt(zero), "0")
	}
	wantText(t, "FormatInt with zeros above", numtext.FormatInt(neg(42, 0, 0)), "-42")
}

// Groups of zeros within a number and at its end are not lost.
func TestFormatIntWithZeros(t *testing.T) {
	for length := range int64(200) {
		for gap := range int64(40) {
			v := new(big.Int).Mul(big.NewInt(7), power(10, length+gap))
			v.Add(v, power(10, length))
			wantText(t, "FormatInt", numtext.FormatInt(canonicalInt(v)), v.String())
		}
	}
}

// The least and the greatest number of each length in limbs. The square of 10^2304, which has 240 limbs, has only 479 limbs and is far below the greatest number of this length.
func TestFormatIntOfEveryLength(t *testing.T) {
	for length := range int64(500) {
		beyond := power(2, 32*length)
		greatest := new(big.Int).Sub(beyond, big.NewInt(1))
		wantText(t, "FormatInt", numtext.FormatInt(canonicalInt(beyond)), beyond.String())
		wantText(t, "FormatInt", numtext.FormatInt(canonicalInt(greatest)), greatest.String())
	}
}

func TestFormatRat(t *testing.T) {
	check := func(a api.Rat) {
		// RatString omits the denominator 1.
		wantText(t, "FormatRat", numtext.FormatRat(a), bigRat(a).RatString())
	}
	for _, a := range rationals() {
		check(a)
	}
	for _, num := range integers() {
		check(api.Rat{Num: num, Den: n(1)})
		check(api.Rat{Num: num, Den: n(6, 0)})
		check(api.Rat{Num: num, Den: n(3, 2, 1)})
		check(api.Rat{Num: neg(10), Den: num.Mag})
		check(api.Rat{Num: num, Den: num.Mag})
	}
}

func TestFormatRatForms(t *testing.T) {
	for _, zero := range []api.Rat{{}, {Den: n(1)}, {Num: neg(), Den: n(9)}, {Num: pos(0), Den: n(0)}, {Num: neg(5), Den: n(0, 0)}, {Num: pos(7)}} {
		wantText(t, "FormatRat of 0", numtext.FormatRat(zero), "0")
	}
	wantText(t, "FormatRat of 8/4", numtext.FormatRat(frac(8, 4)), "2")
	wantText(t, "FormatRat of -8/4", numtext.FormatRat(frac(-8, 4)), "-2")
	wantText(t, "FormatRat of -6/4", numtext.FormatRat(frac(-6, 4)), "-3/2")
	wantText(t, "FormatRat with zeros above", numtext.FormatRat(api.Rat{Num: neg(6, 0), Den: n(4, 0, 0)}), "-3/2")
	wantText(t, "FormatRat of a denominator that begins with 1", numtext.FormatRat(frac(3, 10)), "3/10")
}

// Consequences

func TestFormattedIsReadBack(t *testing.T) {
	for _, a := range integers() {
		text := numtext.FormatInt(a)
		if len(strings.TrimPrefix(text, "-")) > api.MaxDigits {
			wantInt(t, text, api.Int{}, api.ErrLimit)
			continue
		}
		wantInt(t, text, canonicalInt(bigInt(a)), api.OK)
		wantRat(t, text, fraction(bigInt(a), big.NewInt(1)), api.OK)
	}
	for _, a := range rationals() {
		wantRat(t, numtext.FormatRat(a), canonical(bigRat(a)), api.OK)
		if text, ok := numtext.Decimal(a); ok {
			wantRat(t, text, canonical(bigRat(a)), api.OK)
		}
	}
}

func TestReadIsFormattedBack(t *testing.T) {
	s := source(8)
	for _, length := range []int{1, 17, 18, 19, 36, 37, 500, api.MaxDigits - 1, api.MaxDigits} {
		for _, text := range []string{s.digits(length), "-" + s.digits(length)} {
			v, _ := numtext.ParseInt(text)
			wantText(t, "ParseInt and FormatInt", numtext.FormatInt(v), text)
			r, _ := numtext.ParseRat(text)
			wantText(t, "ParseRat and FormatRat", numtext.FormatRat(r), text)
		}
	}
}

func TestExamples(t *testing.T) {
	wantText(t, "FormatRat of 6/4", numtext.FormatRat(frac(6, 4)), "3/2")
	wantRat(t, "-0.25", frac(-1, 4), api.OK)
	wantRat(t, "6/8", frac(3, 4), api.OK)
	wantDecimal(t, frac(7, 40), "0.175", true)
	wantDecimal(t, frac(1, 3), "", false)
	wantFixed(t, frac(5, 2), 0, "2", api.OK)
	wantFixed(t, frac(-1, 1000), 2, "0.00", api.OK)
}
