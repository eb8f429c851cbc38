package vector_test

import (
	"maps"
	"math"
	"math/big"
	"slices"
	"testing"

	"gridmarket/api"
)

// top is the greatest limb.
const top = 1<<32 - 1

// n is a list of limbs.
func n(limbs ...uint32) []uint32 { return limbs }

// pos and neg are integers with the limbs as their magnitude, canonical or not.
func pos(limbs ...uint32) api.Int { return api.Int{Mag: limbs} }
func neg(limbs ...uint32) api.Int { return api.Int{Neg: true, Mag: limbs} }

// frac is the number num / den with these parts as they stand, in lowest terms or not; den is not negative.
func frac(num, den int) api.Rat {
	return api.Rat{Num: canonicalInt(big.NewInt(int64(num))), Den: canonicalInt(big.NewInt(int64(den))).Mag}
}

// e is the entry with an index and the value num / den.
func e(index, num, den int) api.Entry { return api.Entry{Index: index, Value: frac(num, den)} }

// bigInt is the value of an integer as a number of the standard library.
func bigInt(a api.Int) *big.Int {
	v := new(big.Int)
	for _, limb := range slices.Backward(a.Mag) {
		v.Lsh(v, 32)
		v.Or(v, new(big.Int).SetUint64(uint64(limb)))
	}
	if a.Neg {
		v.Neg(v)
	}
	return v
}

// value is the value of a number as a number of the standard library.
func value(a api.Rat) *big.Rat {
	den := bigInt(api.Int{Mag: a.Den})
	if den.Sign() == 0 {
		return new(big.Rat)
	}
	return new(big.Rat).SetFrac(bigInt(a.Num), den)
}

// canonicalInt and canonical are the canonical numbers with a value.
func canonicalInt(v *big.Int) api.Int {
	a := api.Int{Neg: v.Sign() < 0}
	mask := big.NewInt(top)
	for rest := new(big.Int).Abs(v); rest.Sign() > 0; rest.Rsh(rest, 32) {
		a.Mag = append(a.Mag, uint32(new(big.Int).And(rest, mask).Uint64()))
	}
	return a
}

func canonical(v *big.Rat) api.Rat {
	return api.Rat{Num: canonicalInt(v.Num()), Den: canonicalInt(v.Denom()).Mag}
}

// loose is another form of a number: not in lowest terms, and with zeros above both parts.
func loose(a api.Rat) api.Rat {
	factor := big.NewInt(6 << 40)
	num, den := new(big.Int).Mul(factor, bigInt(a.Num)), factor.Mul(factor, bigInt(api.Int{Mag: a.Den}))
	return api.Rat{Num: api.Int{Neg: a.Num.Neg, Mag: append(canonicalInt(num).Mag, 0, 0)}, Den: append(canonicalInt(den).Mag, 0)}
}

// zeros are numbers with the value 0: with the numerator 0, and with a denominator that has the value 0.
func zeros() []api.Rat {
	return []api.Rat{
		{}, {Den: n(1)}, {Num: pos(0), Den: n(5)}, {Num: neg(), Den: n(7)}, {Num: neg(0, 0), Den: n(0, 0, 9)},
		{Num: pos(7)}, {Num: neg(7), Den: n()}, {Num: pos(3), Den: n(0)}, {Num: neg(top, top), Den: n(0, 0, 0)},
	}
}

func equalInt(a, b api.Int) bool { return a.Neg == b.Neg && slices.Equal(a.Mag, b.Mag) }

func equal(a, b api.Rat) bool { return equalInt(a.Num, b.Num) && slices.Equal(a.Den, b.Den) }

// wantValue reports an error if got is not the canonical number with a value.
func wantValue(t *testing.T, what string, got api.Rat, expected *big.Rat) {
	t.Helper()
	if !equal(got, canonical(expected)) {
		t.Errorf("%s: got %v, want %v", what, got, expected)
	}
}

// components contains the components of a vector that are not 0, by their indices.
type components map[int]*big.Rat

// of contains the components of the vector that a list denotes.
func of(v []api.Entry) components {
	c := components{}
	for _, entry := range v {
		c[entry.Index] = new(big.Rat).Add(c.at(entry.Index), value(entry.Value))
	}
	return c.trimmed()
}

// at is the component with an index.
func (c components) at(i int) *big.Rat {
	if c[i] == nil {
		return new(big.Rat)
	}
	return c[i]
}

// trimmed is c without zeros.
func (c components) trimmed() components {
	maps.DeleteFunc(c, func(i int, v *big.Rat) bool { return v.Sign() == 0 })
	return c
}

// plus is c + f times d.
func (c components) plus(f *big.Rat, d components) components {
	sum := maps.Clone(c)
	for i, v := range d {
		sum[i] = new(big.Rat).Add(c.at(i), new(big.Rat).Mul(f, v))
	}
	return sum.trimmed()
}

// dot is the sum of the products of the components with the same index.
func (c components) dot(d components) *big.Rat {
	sum := new(big.Rat)
	for i, v := range c {
		sum.Add(sum, new(big.Rat).Mul(v, d.at(i)))
	}
	return sum
}

// moved is c with other indices.
func (c components) moved(p []int) components {
	d := components{}
	for i, v := range c {
		d[p[i]] = v
	}
	return d
}

// indices are the indices of the components that are not 0, in ascending order.
func (c components) indices() []int { return slices.Sorted(maps.Keys(c)) }

// list is the canonical list of c.
func (c components) list() []api.Entry {
	var v []api.Entry
	for _, i := range c.indices() {
		v = append(v, api.Entry{Index: i, Value: canonical(c[i])})
	}
	return v
}

func equalLists(a, b []api.Entry) bool {
	return slices.EqualFunc(a, b, func(x, y api.Entry) bool { return x.Index == y.Index && equal(x.Value, y.Value) })
}

// wantList reports an error if got is not the expected list, entry by entry and field by field; nil and empty lists are equal.
func wantList(t *testing.T, what string, got, expected []api.Entry) {
	t.Helper()
	if !equalLists(got, expected) {
		t.Errorf("%s: got %v, want %v", what, got, expected)
	}
}

// source is a sequence of numbers that looks random and is the same in every run.
type source uint64

func (s *source) next() uint32 {
	*s = *s*6364136223846793005 + 1442695040888963407
	return uint32(*s >> 32)
}

// below returns a number below m.
func (s *source) below(m int) int { return int(s.next() % uint32(m)) }

// limbs returns at most longest limbs and perhaps zeros above them.
func (s *source) limbs(longest int) []uint32 {
	borders := []uint32{0, 1, 2, 1 << 31, top}
	a := make([]uint32, s.below(longest+1))
	for i := range a {
		a[i] = s.next()
		if s.below(2) == 0 {
			a[i] = borders[s.below(len(borders))]
		}
	}
	return append(a, make([]uint32, s.below(3))...)
}

// number returns a number of one of many forms: often a small one, so that sums cancel, or 0.
func (s *source) number() api.Rat {
	switch s.below(8) {
	case 0:
		return api.Rat{Num: api.Int{Neg: s.below(2) == 0, Mag: s.limbs(4)}, Den: s.limbs(4)}
	case 1:
		all := zeros()
		return all[s.below(len(all))]
	case 2:
		return loose(frac(s.below(5)-2, 1+s.below(3)))
	}
	return frac(s.below(7)-3, 1+s.below(3))
}

// entries returns a list with indices from least to least+width-1, in any order and repeatedly.
func (s *source) entries(length, least, width int) []api.Entry {
	v := make([]api.Entry, length)
	for i := range v {
		v[i] = api.Entry{Index: least + s.below(width), Value: s.number()}
	}
	return v
}

// ascending returns a list with strictly ascending indices from least on, whose values are sometimes 0 and sometimes not canonical.
func (s *source) ascending(length, least int) []api.Entry {
	v := make([]api.Entry, length)
	for i := range v {
		v[i] = api.Entry{Index: least, Value: s.number()}
		least += 1 + s.below(3)
	}
	return v
}

// permutation returns a permutation.
func (s *source) permutation(length int) []int {
	p := make([]int, length)
	for i := range p {
		j := s.below(i + 1)
		p[i] = p[j]
		p[j] = i
	}
	return p
}

// disguised is another list of the same vector: in another order, with values in several parts and forms, and with zeros.
func (s *source) disguised(v []api.Entry) []api.Entry {
	out := make([]api.Entry, 0, 3*len(v))
	for _, entry := range v {
		part := value(s.number())
		rest := new(big.Rat).Sub(value(entry.Value), part)
		out = append(out, api.Entry{Index: entry.Index, Value: loose(canonical(part))}, api.Entry{Index: entry.Index, Value: canonical(rest)})
		if s.below(3) == 0 {
			out = append(out, api.Entry{Index: s.below(9) - 4, Value: zeros()[s.below(len(zeros()))]})
		}
	}
	shuffled := make([]api.Entry, len(out))
	for i, j := range s.permutation(len(out)) {
		shuffled[j] = out[i]
	}
	return shuffled
}

// lists are lists of all forms: empty, canonical and not, ascending and not, with indices of both signs that occur repeatedly, and with components that add up to 0.
func lists() [][]api.Entry {
	all := [][]api.Entry{
		nil, {},
		{e(0, 1, 1)}, {e(0, 2, 4)}, {e(5, -3, 2)}, {e(-1, 1, 3)},
		{e(0, 1, 1), e(1, 1, 1)}, {e(1, 1, 1), e(0, 1, 1)}, {e(-1, 1, 1), e(0, 5, 1), e(1, -1, 1)},
		{e(2, 1, 2), e(2, 1, 2)}, {e(2, 1, 2), e(2, -2, 4)}, {e(2, 1, 2), e(3, 1, 1), e(2, -1, 2)}, {e(2, 1, 3), e(2, 1, 3), e(2, -2, 3), e(4, 1, 1)},
		{e(3, 1, 2), e(1, 2, 1), e(3, -1, 2)},
		{e(math.MaxInt, 1, 2), e(math.MinInt, 2, 3)}, {e(math.MinInt, -1, 2), e(0, 1, 1), e(math.MaxInt, 2, 3)},
		{{Index: 1, Value: loose(frac(2, 3))}, {Index: 2, Value: loose(frac(-7, 1))}},
		{{Index: 1, Value: api.Rat{Num: pos(3, 0), Den: n(3, 0)}}, e(2, 4, 4)},
	}
	for _, zero := range zeros() {
		all = append(all,
			[]api.Entry{{Index: 2, Value: zero}}, []api.Entry{{Index: -2, Value: zero}},
			[]api.Entry{e(0, 1, 1), {Index: 2, Value: zero}, e(3, 1, 1)}, []api.Entry{{Index: 2, Value: zero}, e(2, 1, 3), {Index: 2, Value: zero}})
	}
	s := source(1)
	for length := range 12 {
		all = append(all, s.entries(length, 0, 4), s.entries(length, -3, 6), s.ascending(length, 0), s.ascending(length, -4))
		all = append(all, of(s.ascending(length, 0)).list())
	}
	return append(all, s.entries(60, -5, 20), s.ascending(60, -30))
}
