package memory

import (
	"strings"
	"testing"

	"gridmarket/api"
	"gridmarket/numtext"
)

func TestNumtext(t *testing.T) {
	for _, a := range integers() {
		check(t, "FormatInt", numtext.FormatInt, a)
	}
	for _, a := range rationals() {
		check(t, "FormatRat", numtext.FormatRat, a)
		check(t, "Decimal", numtext.Decimal, a)
		for _, places := range []int{-1, 0, 2, api.MaxPlaces, api.MaxPlaces + 1} {
			check(t, "Fixed", numtext.Fixed, a, places)
		}
	}
	long := strings.Repeat("7", 50)
	for _, s := range []string{
		"", "0", "-1", "01", long, "-" + long, "6/8", "1/0", "-" + long + "/12", "4/" + long, long + "/" + long, "-0.25", "0." + long, long + ".0", strings.Repeat("1", api.MaxDigits+1),
	} {
		check(t, "ParseInt", numtext.ParseInt, s)
		check(t, "ParseRat", numtext.ParseRat, s)
	}
}
