package numtext_test

import (
	"math/big"
	"regexp"
	"slices"
	"strings"
	"testing"

	"gridmarket/api"
)

// top is the greatest limb.
const top = 1<<32 - 1

// n is a list of limbs.
func n(limbs ...uint32) []uint32 { return limbs }

// pos and neg are integers with the limbs as their magnitude, canonical or not.
func pos(limbs ...uint32) api.Int { return api.Int{Mag: limbs} }
func neg(limbs ...uint32) api.Int { return api.Int{Neg: true, Mag: limbs} }

// fraction is the number num / den with these parts as they stand, in lowest terms or not; den is not negative.
func fraction(num, den *big.Int) api.Rat { return api.Rat{Num: canonicalInt(num), Den: limbs(den)} }

func frac(num, den int64) api.Rat { return fraction(big.NewInt(num), big.NewInt(den)) }

// bigInt is the value of an integer as a number of the standard library.
func bigInt(a api.Int) *big.Int {
	v := new(big.Int)
	for _, limb := range slices.Backward(a.Mag) {
		v.Lsh(v, 32)
		v.Or(v, new(big.Int).SetUint64(uint64(limb)))
	}
	if a.Neg {
		v.Neg(v)
	}
	return v
}

// bigRat is the value of a number as a number of the standard library.
func bigRat(a api.Rat) *big.Rat {
	den := bigInt(api.Int{Mag: a.Den})
	if den.Sign() == 0 {
		return new(big.Rat)
	}
	return new(big.Rat).SetFrac(bigInt(a.Num), den)
}

// limbs is the canonical list of the absolute value of v.
func limbs(v *big.Int) []uint32 {
	var a []uint32
	mask := big.NewInt(top)
	for rest := new(big.Int).Abs(v); rest.Sign() > 0; rest.Rsh(rest, 32) {
		a = append(a, uint32(new(big.Int).And(rest, mask).Uint64()))
	}
	return a
}

// canonicalInt and canonical are the canonical numbers with a value.
func canonicalInt(v *big.Int) api.Int { return api.Int{Neg: v.Sign() < 0, Mag: limbs(v)} }

func canonical(v *big.Rat) api.Rat { return fraction(v.Num(), v.Denom()) }

// power is base^exponent.
func power(base, exponent int64) *big.Int {
	return new(big.Int).Exp(big.NewInt(base), big.NewInt(exponent), nil)
}

func equalInt(a, b api.Int) bool { return a.Neg == b.Neg && slices.Equal(a.Mag, b.Mag) }

func equal(a, b api.Rat) bool { return equalInt(a.Num, b.Num) && slices.Equal(a.Den, b.Den) }

// brief shortens a long text for a message.
func brief(s string) string {
	if len(s) > 60 {
		return s[:30] + "..." + s[len(s)-30:]
	}
	return s
}

func wantText(t *testing.T, what, got, expected string) {
	t.Helper()
	if got != expected {
		t.Errorf("%s: got %q, want %q", what, brief(got), brief(expected))
	}
}

// source is a sequence of numbers that looks random and is the same in every run.
type source uint64

func (s *source) next() uint32 {
	*s = *s*6364136223846793005 + 1442695040888963407
	return uint32(*s >> 32)
}

// below returns a number below m.
func (s *source) below(m int) int { return int(s.next() % uint32(m)) }

// list returns at most longest limbs and perhaps zeros above them.
func (s *source) list(longest int) []uint32 {
	borders := []uint32{0, 1, 2, 1 << 31, top}
	a := make([]uint32, s.below(longest+1))
	for i := range a {
		a[i] = s.next()
		if s.below(2) == 0 {
			a[i] = borders[s.below(len(borders))]
		}
	}
	return append(a, make([]uint32, s.below(3))...)
}

func (s *source) integer(longest int) api.Int {
	return api.Int{Neg: s.below(2) == 0, Mag: s.list(longest)}
}

func (s *source) number(longest int) api.Rat {
	return api.Rat{Num: s.integer(longest), Den: s.list(longest)}
}

// digits returns that many digits, the first of which is not 0.
func (s *source) digits(length int) string {
	text := []byte{byte('1' + s.below(9))}
	for len(text) < length {
		text = append(text, byte('0'+s.below(10)))
	}
	return string(text)
}

// integers are canonical and other integers: 0 in all its forms, numbers around powers of 2 and of 10, and long ones.
func integers() []api.Int {
	all := []api.Int{{}, pos(0), neg(), neg(0, 0), pos(5, 0, 0), neg(12, 0), pos(top, 1<<31, 0)}
	around := func(v *big.Int) {
		for by := int64(-1); by <= 1; by++ {
			near := new(big.Int).Add(v, big.NewInt(by))
			all = append(all, canonicalInt(near), canonicalInt(new(big.Int).Neg(near)))
		}
	}
	for exponent := range int64(160) {
		around(power(2, exponent))
		around(power(10, exponent))
	}
	for _, exponent := range []int64{288, 300, 576, 600, 1152, 1153, 4095, 4096, 5000} {
		around(power(10, exponent))
	}
	s := source(1)
	for range 500 {
		all = append(all, s.integer(8))
	}
	for range 20 {
		all = append(all, s.integer(300))
	}
	return all
}

// rationals are canonical and other numbers, some with a denominator of the value 0.
func rationals() []api.Rat {
	all := []api.Rat{
		{}, {Num: pos(7)}, {Num: neg(7), Den: n(0)}, {Num: neg(3), Den: n(0, 0)}, {Num: neg(0, 0), Den: n(4)}, {Num: neg(), Den: n(0)},
		{Num: neg(6, 0), Den: n(4, 0, 0)}, {Num: pos(0, 0, 6), Den: n(0, 0, 4)}, {Num: neg(10), Den: n(5)}, {Num: pos(0, 1), Den: n(0, 1, 0)},
	}
	for num := int64(-60); num <= 60; num++ {
		for den := range int64(26) {
			all = append(all, frac(num, den))
		}
	}
	s := source(2)
	for range 500 {
		all = append(all, s.number(5))
	}
	for range 20 {
		all = append(all, s.number(100))
	}
	return all
}

// The three kinds of texts, as the chapter defines them.
var (
	numberText   = regexp.MustCompile(`^(0|-?[1-9][0-9]*)$`)
	fractionText = regexp.MustCompile(`^(0|-?[1-9][0-9]*)/(0|[1-9][0-9]*)$`)
	decimalText  = regexp.MustCompile(`^-?(0|[1-9][0-9]*)\.[0-9]+$`)
)

// shortTexts calls check with all texts of at most length characters of an alphabet.
func shortTexts(alphabet string, length int, check func(s string)) {
	var extend func(s string)
	extend = func(s string) {
		check(s)
		if len(s) < length {
			for _, c := range alphabet {
				extend(s + string(c))
			}
		}
	}
	extend("")
}

// noNumbers are texts that denote no number: of no kind, or with characters that only look like those of a number.
func noNumbers() []string {
	return []string{
		"", "-", ".", "/", "-.", "-/", "./", "/.", "+", "--1", "1-", "-1-", "1-1", "- 1", "-0", "-00", "+1", "+0", "01", "-01", "00", "007", " 1", "1 ", "1\n", "\t1", "1 2", "1_000", "1,5", "1'000",
		"0x10", "1e3", "1E3", "0b1", "0o7", "Inf", "NaN", "a", "1a", "a1",
		"٣", "1٣", "３", "1３", "²", "1²", "Ⅷ", "−1", "\ufeff1", "1\u00a0", "1\x00", "\x00",
		"\xff", "1\xff", "\xff1", "1\xc3", "\xe2\x88", "\xf0\x9d\x9f", "\u0661", "\uff11", "\U0001d7cf", "1\xb1", "\xb1",
		strings.Repeat("-", 5000), strings.Repeat("1", 5000) + "x", "0" + strings.Repeat("1", 5000), "-0" + strings.Repeat("0", 5000),
	}
}
