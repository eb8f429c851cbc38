package numtext

import (
	"strconv"
	"strings"

	"gridmarket/api"
	"gridmarket/integer"
	"gridmarket/rational"
)

// FormatInt returns the number text of a.
func FormatInt(a api.Int) string {
	if v, ok := integer.Value(a); ok {
		return strconv.Itoa(v)
	}
	return withSign(integer.Sign(a), longDigits(integer.Abs(a)))
}

// FormatRat returns the number text of a if a is an integer, and otherwise the number texts of its parts in lowest terms with a slash between them.
func FormatRat(a api.Rat) string {
	a = rational.Norm(a)
	above, below := FormatInt(a.Num), FormatInt(api.Int{Mag: a.Den})
	if below == "1" {
		return above
	}
	return above + "/" + below
}

// longDigits returns the digits of a positive canonical integer. It divides by 10^18, 10^36, 10^72 and so on, the greatest of them first: the halves of a number are faster to convert than the whole.
func longDigits(a api.Int) string {
	power := integer.FromInt(groupScale)
	powers := []api.Int{power}
	// The square of a number of n limbs has at least 2n - 1 limbs, so that the square of the last power is greater than a.
	for 2*len(power.Mag)-1 <= len(a.Mag) {
		power = integer.Mul(power, power)
		powers = append(powers, power)
	}
	var text strings.Builder
	writeDigits(&text, a, powers)
	return strings.TrimLeft(text.String(), "0")
}

// writeDigits writes the digits of a, which is not negative and less than the square of the last power, or than 10^18 if there is no power. Zeros before the digits fill up the length of the greatest such number.
func writeDigits(text *strings.Builder, a api.Int, powers []api.Int) {
	if len(powers) == 0 {
		v, _ := integer.Value(a)
		text.WriteString(padded(strconv.Itoa(v), groupDigits))
		return
	}
	last := len(powers) - 1
	high, low, _ := integer.DivMod(a, powers[last])
	writeDigits(text, high, powers[:last])
	writeDigits(text, low, powers[:last])
}

// padded returns digits with zeros before them, so that it has at least the given length.
func padded(digits string, length int) string {
	return strings.Repeat("0", max(0, length-len(digits))) + digits
}

// withSign returns digits with a minus sign before them if sign is negative.
func withSign(sign int, digits string) string {
	if sign < 0 {
		return "-" + digits
	}
	return digits
}
