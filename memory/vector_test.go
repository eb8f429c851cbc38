package memory

import (
	"testing"

	"gridmarket/api"
	"gridmarket/vector"
)

// vectors are lists of entries: with ascending indices or not, canonical or not, also with components that add up to 0.
func vectors() [][]api.Entry {
	var ascending, mixed, canonical []api.Entry
	for i, a := range rationals() {
		ascending = append(ascending, api.Entry{Index: i, Value: a})
		mixed = append(mixed, api.Entry{Index: 40 - i*7%50, Value: a}, api.Entry{Index: i % 9, Value: a})
	}
	for i := range 5 {
		canonical = append(canonical, api.Entry{Index: 2*i + 1, Value: api.Rat{Num: api.Int{Neg: i > 2, Mag: []uint32{uint32(2 * i), 1}}, Den: []uint32{3, 0, 5}}})
	}
	two := api.Rat{Num: api.Int{Mag: []uint32{4}}, Den: []uint32{2}}
	minusTwo := api.Rat{Num: api.Int{Neg: true, Mag: []uint32{2}}, Den: []uint32{1}}
	return [][]api.Entry{
		nil, {}, ascending, ascending[8:20], mixed, mixed[:7], canonical, canonical[1:3], canonical[2:3],
		{{Index: 1, Value: two}, {Index: 1, Value: minusTwo}}, {{Index: -3, Value: two}, {Index: 5, Value: minusTwo}, {Index: 4, Value: two}},
		{{Index: 0, Value: two}, {Index: 3, Value: minusTwo}},
	}
}

func TestVector(t *testing.T) {
	p := make([]int, 50)
	for i := range p {
		p[i] = (7*i + 3) % 50
	}
	for _, v := range vectors() {
		for _, n := range []int{-1, 0, 4, 50, 100} {
			check(t, "Valid", vector.Valid, v, n)
			check(t, "Dense", vector.Dense, v, n)
			check(t, "Get", vector.Get, v, n)
		}
		check(t, "Get", vector.Get, v, 1)
		check(t, "Norm", vector.Norm, v)
		check(t, "Support", vector.Support, v)
		check(t, "Permute", vector.Permute, v, p)
		check(t, "Permute", vector.Permute, v, p[:4])
		check(t, "Permute", vector.Permute, v, []int{3, 0, 2, 1})
		for _, f := range rationals() {
			check(t, "Scale", vector.Scale, f, v)
		}
	}
	for length := range 12 {
		check(t, "FromDense", vector.FromDense, rationals()[4*length:])
		check(t, "FromDense", vector.FromDense, rationals()[:length])
	}
}

func TestVectorPairs(t *testing.T) {
	for _, a := range vectors() {
		for _, b := range vectors() {
			check(t, "Equal", vector.Equal, a, b)
			check(t, "Add", vector.Add, a, b)
			check(t, "Dot", vector.Dot, a, b)
			for _, f := range rationals()[10:30] {
				check(t, "AddScaled", vector.AddScaled, a, f, b)
			}
		}
	}
}
