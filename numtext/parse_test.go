package numtext_test

import (
	"math/big"
	"strings"
	"testing"

	"gridmarket/api"
	"gridmarket/numtext"
)

// P4.1 and P4.2: reading

func wantInt(t *testing.T, s string, expected api.Int, code api.Errno) {
	t.Helper()
	got, gotCode := numtext.ParseInt(s)
	if !equalInt(got, expected) || gotCode != code {
		t.Errorf("ParseInt(%q): got %v, %d, want %v, %d", brief(s), got, gotCode, expected, code)
	}
}

func wantRat(t *testing.T, s string, expected api.Rat, code api.Errno) {
	t.Helper()
	got, gotCode := numtext.ParseRat(s)
	if !equal(got, expected) || gotCode != code {
		t.Errorf("ParseRat(%q): got %v, %d, want %v, %d", brief(s), got, gotCode, expected, code)
	}
}

// checkInt compares ParseInt with the standard library.
func checkInt(t *testing.T, s string) {
	t.Helper()
	if !numberText.MatchString(s) {
		wantInt(t, s, api.Int{}, api.ErrSyntax)
		return
	}
	v, _ := new(big.Int).SetString(s, 10)
	wantInt(t, s, canonicalInt(v), api.OK)
}

// checkRat compares ParseRat with the standard library, for texts within the limit.
func checkRat(t *testing.T, s string) {
	t.Helper()
	_, below, isFraction := strings.Cut(s, "/")
	switch {
	case !numberText.MatchString(s) && !fractionText.MatchString(s) && !decimalText.MatchString(s):
		wantRat(t, s, api.Rat{}, api.ErrSyntax)
	case isFraction && below == "0":
		wantRat(t, s, api.Rat{}, api.ErrZero)
	default:
		v, _ := new(big.Rat).SetString(s)
		wantRat(t, s, canonical(v), api.OK)
	}
}

func TestParseShortTexts(t *testing.T) {
	shortTexts("-/.012", 6, func(s string) {
		checkInt(t, s)
		checkRat(t, s)
	})
	shortTexts("-+./0159 eé\xff", 3, func(s string) {
		checkInt(t, s)
		checkRat(t, s)
	})
}

func TestParseLongTexts(t *testing.T) {
	s := source(3)
	for length := 1; length < 150; length++ {
		for _, digits := range []string{s.digits(length), "1" + strings.Repeat("0", length-1), strings.Repeat("9", length)} {
			checkInt(t, digits)
			checkInt(t, "-"+digits)
			checkRat(t, digits)
			checkRat(t, "-"+digits)
			for _, other := range []string{s.digits(1 + s.below(100)), "0", "1"} {
				checkRat(t, digits+"/"+other)
				checkRat(t, "-"+digits+"/"+other)
				checkRat(t, digits+"."+other)
				checkRat(t, "-"+other+"."+digits)
				checkRat(t, "0."+strings.Repeat("0", s.below(40))+other+strings.Repeat("0", s.below(40)))
			}
		}
	}
}

func TestParseNoNumbers(t *testing.T) {
	for _, s := range noNumbers() {
		wantInt(t, s, api.Int{}, api.ErrSyntax)
		wantRat(t, s, api.Rat{}, api.ErrSyntax)
		wantRat(t, s+"/3", api.Rat{}, api.ErrSyntax)
		wantRat(t, "3/"+s, api.Rat{}, api.ErrSyntax)
		wantRat(t, s+"/0", api.Rat{}, api.ErrSyntax)
	}
	for _, s := range []string{"1.5", "0.0", "6/8", "1/1", "0/3"} {
		wantInt(t, s, api.Int{}, api.ErrSyntax)
	}
}

func TestParseRatNoTexts(t *testing.T) {
	for _, s := range []string{
		"-0/3", "-0/1", "-0/0", "01/2", "1/02", "1/00", "0/00", "1/-2", "-1/-2", "1/+2", "1/", "/2", "-/2", "1/-", "1//2", "1/2/3", "1/2/", "1 /2", "1/ 2", "1/x", "1/٣", "1/\xff",
		"1.", ".5", "-.5", "-.", "+0.5", "00.5", "01.5", "-00.5", "1.5.", "1..5", "1.2.3", "1.-5", "1.+5", "1. 5", "1 .5", "1.5 ", "1.5e3", "1.x", "1.٣", "1.\xff", "x.5",
		"1.5/2", "1/2.5", "1.5/2.5", "1./2", "1/.5", ".1/2", "1/2.", "1/2e3", "--0.5", "-1/--2", "1,5",
	} {
		wantRat(t, s, api.Rat{}, api.ErrSyntax)
	}
}

func TestParseRatForms(t *testing.T) {
	zero := api.Rat{Den: n(1)}
	for _, s := range []string{"0", "0/1", "0/3", "0.0", "-0.0", "0.000", "-0.000", "0/4294967296"} {
		wantRat(t, s, zero, api.OK)
	}
	for s, expected := range map[string]api.Rat{
		"7": frac(7, 1), "-7": frac(-7, 1), "6/8": frac(3, 4), "-6/8": frac(-3, 4), "12/4": frac(3, 1), "1/1": frac(1, 1), "5/10": frac(1, 2),
		"-0.5": frac(-1, 2), "0.50": frac(1, 2), "-0.25": frac(-1, 4), "2.0": frac(2, 1), "-2.50": frac(-5, 2), "10.01": frac(1001, 100), "0.001": frac(1, 1000), "-0.001000": frac(-1, 1000),
	} {
		wantRat(t, s, expected, api.OK)
	}
	for _, s := range []string{"1/0", "0/0", "-1/0", "123456789012345678901234567890/0"} {
		wantRat(t, s, api.Rat{}, api.ErrZero)
	}
}

func TestParseIntLimit(t *testing.T) {
	s := source(4)
	for _, digits := range []string{s.digits(api.MaxDigits), strings.Repeat("9", api.MaxDigits), "1" + strings.Repeat("0", api.MaxDigits-1)} {
		checkInt(t, digits)
		checkInt(t, "-"+digits)
		checkRat(t, digits)
		checkRat(t, "-"+digits)
		for _, longer := range []string{digits + "0", "-" + digits + "9", digits + digits} {
			wantInt(t, longer, api.Int{}, api.ErrLimit)
			wantRat(t, longer, api.Rat{}, api.ErrLimit)
		}
		for _, wrong := range []string{"0" + digits, "-0" + digits, "+" + digits, "--" + digits, digits + digits + "x", digits + "0 ", digits + "0é"} {
			wantInt(t, wrong, api.Int{}, api.ErrSyntax)
			wantRat(t, wrong, api.Rat{}, api.ErrSyntax)
		}
	}
}

// The digits of both numbers count, also zeros, but neither sign, slash nor point does.
func TestParseRatLimit(t *testing.T) {
	s := source(5)
	for _, length := range []int{1, 2, 1000, api.MaxDigits / 2, api.MaxDigits - 1} {
		first, second := s.digits(length), s.digits(api.MaxDigits-length)
		for _, sign := range []string{"", "-"} {
			checkRat(t, sign+first+"/"+second)
			checkRat(t, sign+first+"."+second)
			checkRat(t, sign+"0."+strings.Repeat("0", length-1)+second)
			for _, longer := range []string{first + "/" + second + "0", first + "0/" + second, first + "." + second + "0", first + "0." + second, "0." + strings.Repeat("0", length) + second} {
				wantRat(t, sign+longer, api.Rat{}, api.ErrLimit)
			}
		}
	}
	zeros := strings.Repeat("0", api.MaxDigits-1)
	wantRat(t, "0."+zeros, api.Rat{Den: n(1)}, api.OK)
	wantRat(t, "-0."+zeros, api.Rat{Den: n(1)}, api.OK)
	wantRat(t, "0.0"+zeros, api.Rat{}, api.ErrLimit)
	wantRat(t, "-0.0"+zeros, api.Rat{}, api.ErrLimit)
}

// The first error that applies, in the order ErrSyntax, ErrLimit, ErrZero, is returned.
func TestParseRatOrderOfErrors(t *testing.T) {
	s := source(6)
	most := s.digits(api.MaxDigits - 1)
	wantRat(t, most+"/0", api.Rat{}, api.ErrZero)
	wantRat(t, "-"+most+"/0", api.Rat{}, api.ErrZero)
	wantRat(t, most+"1/0", api.Rat{}, api.ErrLimit)
	wantRat(t, "-"+most+"1/0", api.Rat{}, api.ErrLimit)
	for _, wrong := range []string{"0" + most + "1/0", most + "1/00", most + "1/0x", most + "1/-0", "+" + most + "1/0", most + "1/0/1", most + "1.", "." + most + "11", "00." + most, most + "1.1.1"} {
		wantRat(t, wrong, api.Rat{}, api.ErrSyntax)
	}
	for _, wrong := range []string{"-0/0", "01/0", "1/00", "1/-0", "x/0", "/0", "-/0", "1.5/0", "1/0.0"} {
		wantRat(t, wrong, api.Rat{}, api.ErrSyntax)
	}
}
