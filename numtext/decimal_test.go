package numtext_test

import (
	"math"
	"math/big"
	"strings"
	"testing"

	"gridmarket/api"
	"gridmarket/numtext"
)

// P4.3

func wantDecimal(t *testing.T, a api.Rat, expected string, ok bool) {
	t.Helper()
	got, gotOK := numtext.Decimal(a)
	if got != expected || gotOK != ok {
		t.Errorf("Decimal(%v): got %q, %v, want %q, %v", a, brief(got), gotOK, brief(expected), ok)
	}
}

// shortestDecimal divides the primes 2 and 5 out of the denominator one by one.
func shortestDecimal(v *big.Rat) (string, bool) {
	rest := new(big.Int).Set(v.Denom())
	var counts [2]int
	for i, prime := range []*big.Int{big.NewInt(2), big.NewInt(5)} {
		for {
			q, r := new(big.Int).QuoRem(rest, prime, new(big.Int))
			if r.Sign() != 0 {
				break
			}
			rest = q
			counts[i]++
		}
	}
	if rest.Cmp(big.NewInt(1)) != 0 {
		return "", false
	}
	return v.FloatString(max(counts[0], counts[1])), true
}

func checkDecimal(t *testing.T, a api.Rat) {
	t.Helper()
	text, ok := shortestDecimal(bigRat(a))
	wantDecimal(t, a, text, ok)
	if ok && !numberText.MatchString(text) && (!decimalText.MatchString(text) || strings.HasSuffix(text, "0")) {
		t.Errorf("the text %q that is expected is not a shortest one", brief(text))
	}
}

func TestDecimal(t *testing.T) {
	for _, a := range rationals() {
		checkDecimal(t, a)
	}
	for _, num := range integers() {
		checkDecimal(t, api.Rat{Num: num, Den: n(1, 0)})
		checkDecimal(t, api.Rat{Num: num, Den: n(160, 0)})
		checkDecimal(t, api.Rat{Num: num, Den: n(0, 0, 5)})
	}
}

// All mixtures of the primes, in lowest terms and not, and with a third prime, which cancels or does not.
func TestDecimalOfPrimes(t *testing.T) {
	for twos := range int64(20) {
		for fives := range int64(20) {
			den := new(big.Int).Mul(power(2, twos), power(5, fives))
			for _, num := range []int64{1, -1, 3, -7, 10, 30, 625, -1 << 10, math.MaxInt64} {
				checkDecimal(t, fraction(big.NewInt(num), den))
				other := new(big.Int).Mul(den, big.NewInt(3))
				checkDecimal(t, fraction(big.NewInt(num), other))
				wantDecimal(t, fraction(new(big.Int).Mul(big.NewInt(7), other), new(big.Int).Mul(other, big.NewInt(21))), "", false)
			}
		}
	}
}

func TestDecimalOfLongDenominators(t *testing.T) {
	for _, exponent := range []int64{31, 32, 33, 63, 64, 100, 127, 128, 1000, 3000} {
		for _, den := range []*big.Int{power(2, exponent), power(5, exponent), power(10, exponent), new(big.Int).Mul(power(2, exponent), power(5, exponent/2))} {
			checkDecimal(t, fraction(big.NewInt(-1), den))
			checkDecimal(t, fraction(power(3, 500), den))
			wantDecimal(t, fraction(big.NewInt(1), new(big.Int).Mul(den, big.NewInt(11))), "", false)
			wantDecimal(t, fraction(big.NewInt(1), new(big.Int).Add(new(big.Int).Mul(den, big.NewInt(10)), big.NewInt(1))), "", false)
		}
	}
}

func TestDecimalForms(t *testing.T) {
	for _, zero := range []api.Rat{{}, {Den: n(1)}, {Num: neg(), Den: n(3)}, {Num: neg(0), Den: n(0)}, {Num: neg(5), Den: n(0, 0)}, {Num: pos(1)}} {
		wantDecimal(t, zero, "0", true)
	}
	for text, a := range map[string]api.Rat{
		"4": frac(8, 2), "-4": frac(-12, 3), "100": frac(100, 1), "-1000000": frac(-1000000, 1), "0.5": frac(1, 2), "-0.5": frac(-2, 4), "0.1": frac(1, 10), "0.2": frac(6, 30),
		"2.5": frac(5, 2), "-12.25": frac(-49, 4), "0.001": frac(1, 1000), "-0.0625": frac(-1, 16), "1.05": frac(21, 20), "10.01": frac(1001, 100), "1.5": {Num: pos(6, 0), Den: n(4, 0)},
	} {
		wantDecimal(t, a, text, true)
	}
	for _, a := range []api.Rat{frac(1, 3), frac(-1, 3), frac(10, 6), frac(1, 7), frac(5, 60), frac(1, 1<<40*3), frac(100, 99)} {
		wantDecimal(t, a, "", false)
	}
}

// P4.4

func wantFixed(t *testing.T, a api.Rat, places int, expected string, code api.Errno) {
	t.Helper()
	got, gotCode := numtext.Fixed(a, places)
	if got != expected || gotCode != code {
		t.Errorf("Fixed(%v, %d): got %q, %d, want %q, %d", a, places, brief(got), gotCode, brief(expected), code)
	}
}

// fixedText compares the distances of the two multiples around v.
func fixedText(v *big.Rat, places int) string {
	scale := power(10, int64(places))
	scaled := new(big.Rat).Mul(v, new(big.Rat).SetInt(scale))
	// The standard library's division by a positive number rounds down.
	below := new(big.Int).Div(scaled.Num(), scaled.Denom())
	above := new(big.Int).Add(below, big.NewInt(1))
	down := new(big.Rat).Sub(scaled, new(big.Rat).SetInt(below))
	up := new(big.Rat).Sub(new(big.Rat).SetInt(above), scaled)
	nearest := below
	if side := down.Cmp(up); side > 0 || side == 0 && below.Bit(0) == 1 {
		nearest = above
	}
	return new(big.Rat).SetFrac(nearest, scale).FloatString(places)
}

func checkFixed(t *testing.T, a api.Rat, places int) {
	t.Helper()
	wantFixed(t, a, places, fixedText(bigRat(a), places), api.OK)
}

func TestFixed(t *testing.T) {
	for _, a := range rationals() {
		for _, places := range []int{0, 1, 2, 3, 17, 18, 19, api.MaxPlaces} {
			checkFixed(t, a, places)
		}
	}
	for _, num := range integers() {
		for _, places := range []int{0, 5, 40} {
			checkFixed(t, api.Rat{Num: num, Den: n(1)}, places)
			checkFixed(t, api.Rat{Num: num, Den: n(0, 3)}, places)
		}
	}
}

// Half way between two multiples, and just beside it, on both sides of 0.
func TestFixedAtHalves(t *testing.T) {
	for places := range api.MaxPlaces + 1 {
		scale := new(big.Int).Mul(big.NewInt(2), power(10, int64(places)))
		for odd := int64(-9); odd <= 9; odd += 2 {
			checkFixed(t, fraction(big.NewInt(odd), scale), places)
			finer := new(big.Int).Mul(scale, power(10, 30))
			for by := int64(-1); by <= 1; by += 2 {
				num := new(big.Int).Mul(big.NewInt(odd), power(10, 30))
				checkFixed(t, fraction(num.Add(num, big.NewInt(by)), finer), places)
			}
		}
	}
}

func TestFixedForms(t *testing.T) {
	for _, c := range []struct {
		a      api.Rat
		places int
		text   string
	}{
		{frac(1, 2), 0, "0"}, {frac(3, 2), 0, "2"}, {frac(5, 2), 0, "2"}, {frac(7, 2), 0, "4"}, {frac(-1, 2), 0, "0"}, {frac(-3, 2), 0, "-2"}, {frac(-5, 2), 0, "-2"}, {frac(-7, 2), 0, "-4"},
		{frac(1, 8), 2, "0.12"}, {frac(3, 8), 2, "0.38"}, {frac(-1, 8), 2, "-0.12"}, {frac(-3, 8), 2, "-0.38"}, {frac(5, 1000), 2, "0.00"}, {frac(15, 1000), 2, "0.02"}, {frac(-5, 1000), 2, "0.00"}, {frac(-15, 1000), 2, "-0.02"},
		{frac(1, 3), 4, "0.3333"}, {frac(2, 3), 4, "0.6667"}, {frac(-2, 3), 1, "-0.7"}, {frac(999, 1000), 2, "1.00"}, {frac(-999, 100), 1, "-10.0"}, {frac(-9, 20), 0, "0"}, {frac(-1, 3), 0, "0"},
		{frac(-1, 1000000), 5, "0.00000"}, {frac(-6, 1000000), 5, "-0.00001"}, {frac(-1, 100), 2, "-0.01"}, {frac(12, 1), 3, "12.000"}, {frac(-12, 1), 1, "-12.0"}, {frac(100, 1), 0, "100"},
		{frac(6, 4), 1, "1.5"}, {frac(0, 1), 0, "0"}, {frac(0, 1), 3, "0.000"}, {frac(9, 0), 2, "0.00"}, {api.Rat{Num: neg(0), Den: n(7)}, 1, "0.0"}, {api.Rat{Num: neg(3, 0), Den: n(2, 0)}, 1, "-1.5"},
	} {
		wantFixed(t, c.a, c.places, c.text, api.OK)
	}
	wantFixed(t, frac(1, 1), api.MaxPlaces, "1."+strings.Repeat("0", api.MaxPlaces), api.OK)
	wantFixed(t, frac(-1, 3), api.MaxPlaces, "-0."+strings.Repeat("3", api.MaxPlaces), api.OK)
}

func TestFixedPlacesOutOfRange(t *testing.T) {
	for _, places := range []int{-1, api.MaxPlaces + 1, -100, 1 << 40, math.MinInt, math.MaxInt} {
		for _, a := range []api.Rat{{}, frac(1, 2), frac(-5, 1), {Num: neg(7)}} {
			wantFixed(t, a, places, "", api.ErrRange)
		}
	}
}
