package rational

import (
	"gridmarket/api"
	"gridmarket/integer"
	"gridmarket/natural"
)

// Floor returns the greatest integer that is not greater than a.
func Floor(a api.Rat) api.Int {
	floor, _, _ := split(a)
	return floor
}

// Ceil returns the least integer that is not less than a.
func Ceil(a api.Rat) api.Int {
	return integer.Neg(Floor(opposite(a)))
}

// Round returns the nearest integer; of two nearest ones the even one.
func Round(a api.Rat) api.Int {
	floor, rest, den := split(a)
	side := natural.Compare(natural.Add(rest, rest), den)
	if side < 0 || side == 0 && isEven(floor) {
		return floor
	}
	return integer.Add(floor, integer.FromInt(1))
}

// split returns the parts of a, which is floor + rest / den, where rest is less than den.
func split(a api.Rat) (floor api.Int, rest, den []uint32) {
	a = proper(a)
	floor, above, _ := integer.DivMod(a.Num, api.Int{Mag: a.Den})
	return floor, above.Mag, a.Den
}

// isEven says whether a canonical integer is even.
func isEven(a api.Int) bool {
	return len(a.Mag) == 0 || a.Mag[0]%2 == 0
}
