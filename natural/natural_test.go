package natural_test

import (
	"math/big"
	"testing"

	"gridmarket/natural"
)

// P1.1

func TestTrim(t *testing.T) {
	for _, a := range samples() {
		wantValue(t, "Trim", natural.Trim(a), value(a))
	}
	want(t, "zeros at the end", natural.Trim(n(0, 7, 0, 0)), n(0, 7))
	want(t, "only zeros", natural.Trim(n(0, 0)), n())
	want(t, "the empty list", natural.Trim(nil), n())
}

func TestFromUint64(t *testing.T) {
	want(t, "0", natural.FromUint64(0), n())
	want(t, "1", natural.FromUint64(1), n(1))
	want(t, "2^32 - 1", natural.FromUint64(top), n(top))
	want(t, "2^32", natural.FromUint64(1<<32), n(0, 1))
	want(t, "2^64 - 1", natural.FromUint64(1<<64-1), n(top, top))
}

func TestUint64(t *testing.T) {
	cases := []struct {
		a  []uint32
		v  uint64
		ok bool
	}{
		{nil, 0, true},
		{n(0, 0, 0, 0), 0, true},
		{n(9), 9, true},
		{n(top, 0), top, true},
		{n(0, 1), 1 << 32, true},
		{n(3, 4, 0), 4<<32 + 3, true},
		{n(top, top, 0, 0), 1<<64 - 1, true},
		{n(0, 0, 1), 0, false},
		{n(5, 6, 7, 0), 0, false},
		{n(5, 6, 0, 1), 0, false},
	}
	for _, c := range cases {
		v, ok := natural.Uint64(c.a)
		if v != c.v || ok != c.ok {
			t.Errorf("Uint64(%v): got %d, %v, want %d, %v", c.a, v, ok, c.v, c.ok)
		}
	}
}

func TestCompare(t *testing.T) {
	pairs(func(a, b []uint32) {
		for _, p := range [][2][]uint32{{a, b}, {b, a}, {a, natural.Trim(a)}} {
			got, expected := natural.Compare(p[0], p[1]), value(p[0]).Cmp(value(p[1]))
			if got != expected {
				t.Errorf("Compare(%v, %v): got %d, want %d", p[0], p[1], got, expected)
			}
		}
	})
}

// P1.2

func TestAdd(t *testing.T) {
	want(t, "example 1", natural.Add(n(top), n(1)), n(0, 1))
	want(t, "a carry through all limbs", natural.Add(n(top, top), n(1, 0, 0)), n(0, 0, 1))
	pairs(func(a, b []uint32) {
		wantValue(t, "Add", natural.Add(a, b), new(big.Int).Add(value(a), value(b)))
		wantValue(t, "Add of a list to itself", natural.Add(a, a), new(big.Int).Lsh(value(a), 1))
	})
}

func TestSub(t *testing.T) {
	d, ok := natural.Sub(n(0, 1), n(1, 0, 0))
	want(t, "example 2", d, n(top))
	wantFlag(t, "example 2", ok, true)
	pairs(func(a, b []uint32) {
		for _, p := range [][2][]uint32{{a, b}, {b, a}, {a, a}} {
			expected := new(big.Int).Sub(value(p[0]), value(p[1]))
			d, ok := natural.Sub(p[0], p[1])
			wantFlag(t, "Sub", ok, expected.Sign() >= 0)
			if expected.Sign() < 0 {
				want(t, "Sub of a greater number", d, nil)
			} else {
				wantValue(t, "Sub", d, expected)
			}
		}
	})
}

func TestMul(t *testing.T) {
	want(t, "by 0", natural.Mul(n(top, top), n(0, 0)), n())
	want(t, "greatest limbs", natural.Mul(n(top, top), n(top, top)), n(1, 0, top-1, top))
	pairs(func(a, b []uint32) {
		wantValue(t, "Mul", natural.Mul(a, b), new(big.Int).Mul(value(a), value(b)))
		wantValue(t, "Mul of a list with itself", natural.Mul(b, b), new(big.Int).Mul(value(b), value(b)))
	})
}

func TestLawsOfSumsAndProducts(t *testing.T) {
	s := source(3)
	for range 500 {
		a, b, c := s.list(6), s.list(6), s.list(6)
		want(t, "a + b = b + a", natural.Add(a, b), natural.Add(b, a))
		want(t, "(a + b) + c = a + (b + c)", natural.Add(natural.Add(a, b), c), natural.Add(a, natural.Add(b, c)))
		want(t, "a b = b a", natural.Mul(a, b), natural.Mul(b, a))
		want(t, "(a b) c = a (b c)", natural.Mul(natural.Mul(a, b), c), natural.Mul(a, natural.Mul(b, c)))
		want(t, "a (b + c) = a b + a c", natural.Mul(a, natural.Add(b, c)), natural.Add(natural.Mul(a, b), natural.Mul(a, c)))
	}
}
