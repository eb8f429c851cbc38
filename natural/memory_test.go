package natural_test

import (
	"slices"
	"testing"

	"gridmarket/natural"
)

// R2 and R3

// call is a function of the package as a function of two lists, with the lists that it returns.
type call struct {
	name string
	do   func(a, b []uint32) [][]uint32
}

func calls() []call {
	list := func(a []uint32, _ ...bool) [][]uint32 { return [][]uint32{a} }
	return []call{
		{"Trim", func(a, _ []uint32) [][]uint32 { return list(natural.Trim(a)) }},
		{"Uint64", func(a, _ []uint32) [][]uint32 {
			v, ok := natural.Uint64(a)
			return list(natural.FromUint64(v), ok)
		}},
		{"Compare", func(a, b []uint32) [][]uint32 { return list(natural.FromUint64(uint64(natural.Compare(a, b) + 1))) }},
		{"Add", func(a, b []uint32) [][]uint32 { return list(natural.Add(a, b)) }},
		{"Sub", func(a, b []uint32) [][]uint32 {
			d, ok := natural.Sub(a, b)
			return list(d, ok)
		}},
		{"Mul", func(a, b []uint32) [][]uint32 { return list(natural.Mul(a, b)) }},
		{"DivMod", func(a, b []uint32) [][]uint32 {
			q, r, _ := natural.DivMod(a, b)
			return [][]uint32{q, r}
		}},
		{"GCD", func(a, b []uint32) [][]uint32 { return list(natural.GCD(a, b)) }},
		{"Bits", func(a, _ []uint32) [][]uint32 { return list(natural.FromUint64(uint64(natural.Bits(a)))) }},
		{"ShiftLeft", func(a, b []uint32) [][]uint32 {
			s, ok := natural.ShiftLeft(a, 13*len(b))
			return list(s, ok)
		}},
		{"ShiftRight", func(a, b []uint32) [][]uint32 {
			s, ok := natural.ShiftRight(a, 13*len(b))
			return list(s, ok)
		}},
	}
}

// within copies a into the middle of a longer array, so that writes beyond its length are seen.
func within(a []uint32) (inside, whole []uint32) {
	whole = slices.Repeat([]uint32{0xA5A5A5A5}, len(a)+6)
	copy(whole[2:], a)
	return whole[2 : 2+len(a)], whole
}

// spoil overwrites a list up to its capacity.
func spoil(a []uint32) {
	for i := range a[:cap(a)] {
		a[:cap(a)][i] ^= 0x5A5A5A5A
	}
}

// clones copies lists.
func clones(lists [][]uint32) [][]uint32 {
	var out [][]uint32
	for _, l := range lists {
		out = append(out, slices.Clone(l))
	}
	return out
}

func same(a, b [][]uint32) bool { return slices.EqualFunc(a, b, slices.Equal[[]uint32]) }

// checkMemory does a call and then overwrites each list in turn; no other list may change.
func checkMemory(t *testing.T, c call, a, b []uint32) {
	t.Helper()
	insideA, wholeA := within(a)
	insideB, wholeB := within(b)
	beforeA, beforeB := slices.Clone(wholeA), slices.Clone(wholeB)
	results := c.do(insideA, insideB)
	first, expected := clones(results), clones(results)
	if !slices.Equal(wholeA, beforeA) || !slices.Equal(wholeB, beforeB) {
		t.Errorf("%s(%v, %v) modifies an argument", c.name, a, b)
	}
	spoil(wholeA)
	spoil(wholeB)
	if !same(results, expected) {
		t.Errorf("%s(%v, %v) returns the memory of an argument", c.name, a, b)
	}
	beforeA, beforeB = slices.Clone(wholeA), slices.Clone(wholeB)
	for i := range results {
		spoil(results[i])
		expected[i] = slices.Clone(results[i])
		if !same(results, expected) {
			t.Errorf("%s(%v, %v) returns lists that share memory", c.name, a, b)
		}
	}
	if !slices.Equal(wholeA, beforeA) || !slices.Equal(wholeB, beforeB) {
		t.Errorf("%s(%v, %v) returns spare memory of an argument", c.name, a, b)
	}
	if again := c.do(slices.Clone(a), slices.Clone(b)); !same(again, first) {
		t.Errorf("%s(%v, %v) returns %v at first and then %v", c.name, a, b, first, again)
	}
}

func TestMemory(t *testing.T) {
	for _, c := range calls() {
		for _, a := range samples() {
			for _, b := range samples() {
				checkMemory(t, c, a, b)
			}
		}
		s := source(13)
		for range 200 {
			checkMemory(t, c, s.list(12), s.list(8))
		}
	}
}

// Results depend on values only: zeros at the end of the arguments change nothing.
func TestZerosAtTheEnd(t *testing.T) {
	for _, c := range calls() {
		s := source(17)
		for range 300 {
			a, b := s.list(9), s.list(6)
			longer := append(slices.Clone(a), 0, 0)
			if got, expected := c.do(longer, b), c.do(a, b); !same(got, expected) {
				t.Errorf("%s(%v, %v): got %v, want %v as without the zeros", c.name, longer, b, got, expected)
			}
		}
	}
}

// Lists that overlap are arguments like any others.
func TestOverlappingArguments(t *testing.T) {
	for _, c := range calls() {
		whole := n(5, top, 0, 7, 1<<31, top, 3, 0)
		for from := range len(whole) {
			for to := from; to <= len(whole); to++ {
				a, b := whole[from:to], whole[from/2:to]
				expected := c.do(slices.Clone(a), slices.Clone(b))
				if got := c.do(a, b); !same(got, expected) {
					t.Errorf("%s(%v, %v): got %v, want %v", c.name, a, b, got, expected)
				}
			}
		}
	}
}
