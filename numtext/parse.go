package numtext

import (
	"strings"

	"gridmarket/api"
	"gridmarket/integer"
	"gridmarket/rational"
)

// ParseInt returns the integer whose number text is s.
func ParseInt(s string) (api.Int, api.Errno) {
	switch {
	case !isNumber(s):
		return api.Int{}, api.ErrSyntax
	case len(unsigned(s)) > api.MaxDigits:
		return api.Int{}, api.ErrLimit
	}
	return read(s), api.OK
}

// ParseRat returns the number that s denotes, which is a number text, a fraction text or a decimal text.
func ParseRat(s string) (api.Rat, api.Errno) {
	if above, below, ok := strings.Cut(s, "/"); ok {
		return parseFraction(above, below)
	}
	if whole, places, ok := strings.Cut(s, "."); ok {
		return parseDecimal(whole, places)
	}
	n, code := ParseInt(s)
	if code != api.OK {
		return api.Rat{}, code
	}
	value, _ := rational.New(n, integer.FromInt(1))
	return value, api.OK
}

// parseFraction returns the number that is denoted by the texts before and after a slash.
func parseFraction(above, below string) (api.Rat, api.Errno) {
	switch {
	case !isNumber(above) || !isPlain(below):
		return api.Rat{}, api.ErrSyntax
	case len(unsigned(above))+len(below) > api.MaxDigits:
		return api.Rat{}, api.ErrLimit
	}
	value, ok := rational.New(read(above), read(below))
	if !ok {
		return api.Rat{}, api.ErrZero
	}
	return value, api.OK
}

// parseDecimal returns the number that is denoted by the texts before and after a point.
func parseDecimal(whole, places string) (api.Rat, api.Errno) {
	switch {
	case !isPlain(unsigned(whole)) || !isDigits(places):
		return api.Rat{}, api.ErrSyntax
	case len(unsigned(whole))+len(places) > api.MaxDigits:
		return api.Rat{}, api.ErrLimit
	}
	value, _ := rational.New(read(whole+places), powerOfTen(len(places)))
	return value, api.OK
}

// isNumber says whether s is a number text.
func isNumber(s string) bool {
	return isPlain(unsigned(s)) && s != "-0"
}

// isPlain says whether s is a digit string without leading zeros.
func isPlain(s string) bool {
	return isDigits(s) && (s == "0" || s[0] != '0')
}

// isDigits says whether s is a digit string.
func isDigits(s string) bool {
	for _, c := range s {
		if c < '0' || c > '9' {
			return false
		}
	}
	return s != ""
}

// unsigned returns s without its minus sign.
func unsigned(s string) string {
	return strings.TrimPrefix(s, "-")
}

// read returns the integer whose sign and digits are s. The digits may begin with zeros, as those of a decimal text do.
func read(s string) api.Int {
	digits, negative := strings.CutPrefix(s, "-")
	n := readDigits(digits)
	if negative {
		return integer.Neg(n)
	}
	return n
}

// readDigits returns the natural number with these digits.
func readDigits(digits string) api.Int {
	n := api.Int{}
	scale, group := 1, 0
	for _, c := range digits {
		scale, group = 10*scale, 10*group+int(c-'0')
		if scale == groupScale {
			n = appendGroup(n, scale, group)
			scale, group = 1, 0
		}
	}
	return appendGroup(n, scale, group)
}

// appendGroup returns n with the digits of a group, which has the given power of ten, behind its own.
func appendGroup(n api.Int, scale, group int) api.Int {
	return integer.Add(integer.Mul(integer.FromInt(scale), n), integer.FromInt(group))
}
