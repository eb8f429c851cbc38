package memory

import (
	"testing"

	"gridmarket/api"
	"gridmarket/approx"
)

func TestApprox(t *testing.T) {
	for _, a := range rationals() {
		check(t, "Continued", approx.Continued, a)
		check(t, "Convergents", approx.Convergents, a)
		for _, b := range rationals() {
			check(t, "Simplest", approx.Simplest, a, b)
		}
		for _, most := range integers() {
			check(t, "Below", approx.Below, a, most)
			check(t, "Above", approx.Above, a, most)
		}
	}
}

func TestFromContinued(t *testing.T) {
	all := integers()
	for length := range len(all) + 1 {
		check(t, "FromContinued", approx.FromContinued, all[:length])
		check(t, "FromContinued", approx.FromContinued, all[length:])
	}
	for _, a := range all {
		check(t, "FromContinued", approx.FromContinued, []api.Int{a})
		check(t, "FromContinued", approx.FromContinued, []api.Int{a, {Mag: []uint32{7, 0}}, a, {Neg: true, Mag: []uint32{0, 3}}})
	}
}
