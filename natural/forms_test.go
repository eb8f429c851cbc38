package natural_test

import (
	"slices"
	"testing"

	"gridmarket/natural"
)

// call is a function of the package as a function of two lists, with the lists that it returns.
type call struct {
	name string
	do   func(a, b []uint32) [][]uint32
}

func calls() []call {
	list := func(a []uint32, _ ...bool) [][]uint32 { return [][]uint32{a} }
	return []call{
		{"Trim", func(a, _ []uint32) [][]uint32 { return list(natural.Trim(a)) }},
		{"Uint64", func(a, _ []uint32) [][]uint32 {
			v, ok := natural.Uint64(a)
			return list(natural.FromUint64(v), ok)
		}},
		{"Compare", func(a, b []uint32) [][]uint32 { return list(natural.FromUint64(uint64(natural.Compare(a, b) + 1))) }},
		{"Add", func(a, b []uint32) [][]uint32 { return list(natural.Add(a, b)) }},
		{"Sub", func(a, b []uint32) [][]uint32 {
			d, ok := natural.Sub(a, b)
			return list(d, ok)
		}},
		{"Mul", func(a, b []uint32) [][]uint32 { return list(natural.Mul(a, b)) }},
		{"DivMod", func(a, b []uint32) [][]uint32 {
			q, r, _ := natural.DivMod(a, b)
			return [][]uint32{q, r}
		}},
		{"GCD", func(a, b []uint32) [][]uint32 { return list(natural.GCD(a, b)) }},
		{"Bits", func(a, _ []uint32) [][]uint32 { return list(natural.FromUint64(uint64(natural.Bits(a)))) }},
		{"ShiftLeft", func(a, b []uint32) [][]uint32 {
			s, ok := natural.ShiftLeft(a, 13*len(b))
			return list(s, ok)
		}},
		{"ShiftRight", func(a, b []uint32) [][]uint32 {
			s, ok := natural.ShiftRight(a, 13*len(b))
			return list(s, ok)
		}},
	}
}

func same(a, b [][]uint32) bool { return slices.EqualFunc(a, b, slices.Equal[[]uint32]) }

// Results depend on values only: zeros at the end of the arguments change nothing.
func TestZerosAtTheEnd(t *testing.T) {
	for _, c := range calls() {
		s := source(17)
		for range 300 {
			a, b := s.list(9), s.list(6)
			longer := append(slices.Clone(a), 0, 0)
			if got, expected := c.do(longer, b), c.do(a, b); !same(got, expected) {
				t.Errorf("%s(%v, %v): got %v, want %v as without the zeros", c.name, longer, b, got, expected)
			}
		}
	}
}

// Lists that overlap are arguments like any others.
func TestOverlappingArguments(t *testing.T) {
	for _, c := range calls() {
		whole := n(5, top, 0, 7, 1<<31, top, 3, 0)
		for from := range len(whole) {
			for to := from; to <= len(whole); to++ {
				a, b := whole[from:to], whole[from/2:to]
				expected := c.do(slices.Clone(a), slices.Clone(b))
				if got := c.do(a, b); !same(got, expected) {
					t.Errorf("%s(%v, %v): got %v, want %v", c.name, a, b, got, expected)
				}
			}
		}
	}
}
