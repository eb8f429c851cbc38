package natural_test

import (
	"math/big"
	"testing"

	"gridmarket/natural"
)

// P1.3

// checkDivMod compares a division with that of the standard library.
func checkDivMod(t *testing.T, a, b []uint32) {
	t.Helper()
	q, r, ok := natural.DivMod(a, b)
	if value(b).Sign() == 0 {
		wantFlag(t, "DivMod by 0", ok, false)
		want(t, "quotient by 0", q, nil)
		want(t, "remainder by 0", r, nil)
		return
	}
	quotient, remainder := new(big.Int).QuoRem(value(a), value(b), new(big.Int))
	wantFlag(t, "DivMod", ok, true)
	wantValue(t, "quotient", q, quotient)
	wantValue(t, "remainder", r, remainder)
}

func TestDivMod(t *testing.T) {
	q, r, ok := natural.DivMod(n(0, 0, 1), n(3))
	want(t, "example 3: quotient", q, n(1431655765, 1431655765))
	want(t, "example 3: remainder", r, n(1))
	wantFlag(t, "example 3", ok, true)
	pairs(func(a, b []uint32) {
		checkDivMod(t, a, b)
		checkDivMod(t, b, a)
	})
}

func TestDivModByZero(t *testing.T) {
	for _, a := range samples() {
		checkDivMod(t, a, nil)
		checkDivMod(t, a, n(0))
		checkDivMod(t, a, n(0, 0, 0))
	}
}

// Divisions of exact products, and of the numbers just below and above them, have remainders at the borders.
func TestDivModAtProducts(t *testing.T) {
	s := source(5)
	for range 2000 {
		a, b := s.list(5), s.list(5)
		product := natural.Mul(a, b)
		checkDivMod(t, product, b)
		checkDivMod(t, natural.Add(product, n(1)), b)
		if below, ok := natural.Sub(product, n(1)); ok {
			checkDivMod(t, below, b)
		}
	}
}

// In these divisions the first estimate of a digit is too great by 1 or 2, or is 2^32 or more, or is corrected only after the subtraction.
func TestDivModCorrections(t *testing.T) {
	checkDivMod(t, n(3, 0, 1<<31), n(1, 0, 1<<29))
	checkDivMod(t, n(0, 0, 1<<31, 1<<31-1), n(1, 0, 1<<31))
	checkDivMod(t, n(0, top-1, 1<<31), n(top, 1<<31))
	checkDivMod(t, n(0, top, top, 1<<31), n(top, top, 1<<31))
	checkDivMod(t, n(0, 0, top, 1<<31), n(1, top, 1<<31))
}

func TestGCD(t *testing.T) {
	want(t, "example 4", natural.GCD(n(12), n(18, 0)), n(6))
	want(t, "0 and 0", natural.GCD(nil, n(0, 0)), n())
	pairs(func(a, b []uint32) {
		expected := new(big.Int).GCD(nil, nil, value(a), value(b))
		wantValue(t, "GCD", natural.GCD(a, b), expected)
		wantValue(t, "GCD, exchanged", natural.GCD(b, a), expected)
		wantValue(t, "GCD with 0", natural.GCD(a, n(0)), value(a))
		wantValue(t, "GCD of 0", natural.GCD(nil, b), value(b))
	})
}

// Multiples of a number have a great common divisor, so that long numbers remain at the end.
func TestGCDOfMultiples(t *testing.T) {
	s := source(11)
	for _, longest := range []int{3, 6, 12, 50} {
		for range 300 {
			c := s.list(longest)
			a, b := natural.Mul(s.list(longest), c), natural.Mul(s.list(longest), c)
			g := natural.GCD(a, b)
			wantValue(t, "GCD", g, new(big.Int).GCD(nil, nil, value(a), value(b)))
			x, restX, _ := natural.DivMod(a, g)
			y, restY, _ := natural.DivMod(b, g)
			want(t, "remainder of a", restX, n())
			want(t, "remainder of b", restY, n())
			if len(g) > 0 {
				want(t, "GCD of the quotients", natural.GCD(x, y), n(1))
			}
		}
	}
}

// For neighbours in the sequence of Fibonacci, all quotients are 1, so that Euclid's algorithm takes as many steps as it can.
func TestGCDOfFibonacciNumbers(t *testing.T) {
	a, b := n(), n(1)
	for range 3000 {
		a, b = b, natural.Add(a, b)
	}
	want(t, "neighbours", natural.GCD(a, b), n(1))
	want(t, "multiples of neighbours", natural.GCD(natural.Mul(a, n(6, 7, 8)), natural.Mul(b, n(6, 7, 8))), n(6, 7, 8))
}

// Leading bits that agree, or of which one number has none, leave no quotient certain.
func TestGCDWithoutCertainQuotients(t *testing.T) {
	cases := [][2][]uint32{
		{n(0, 0, 0, 0, 1), n(5)},
		{n(0, 0, 0, 0, 1), n(1, 1, 1)},
		{n(7, 0, 0, 0, 9), n(6, 0, 0, 0, 9)},
		{n(4, 6, 8), n(4, 6, 8)},
		{n(0, 0, 0, 1<<30), n(2, 0, 0, 1)},
		{n(0, 0, 1<<31, 1<<28), n(0, 0, 0, 1)},
		{n(top, top, top, top), n(1, 0, 0, 1)},
	}
	for _, c := range cases {
		wantValue(t, "GCD", natural.GCD(c[0], c[1]), new(big.Int).GCD(nil, nil, value(c[0]), value(c[1])))
	}
}

// Pairs are built up from their quotients, so that runs of all lengths occur.
func TestGCDOfChosenQuotients(t *testing.T) {
	s := source(19)
	for _, bits := range []int{1, 4, 12, 20, 24, 30, 32} {
		for range 400 {
			divisor := n(1+s.next(), s.next(), 1)
			a, b := divisor, n()
			for range 2 + s.below(20) {
				quotient := n(1 + s.next()>>(32-bits)>>s.below(2))
				a, b = natural.Add(natural.Mul(quotient, a), b), a
			}
			wantValue(t, "GCD", natural.GCD(a, b), new(big.Int).GCD(nil, nil, value(a), value(b)))
		}
	}
}

// The leading 60 bits have the quotients 2^20 - 1 and 2^19 - 1. Taken together they would need factors above 2^30, which no run may have.
func TestGCDWithGreatQuotients(t *testing.T) {
	s := source(23)
	for range 200 {
		small, less := uint64(1<<21-2), uint64(1<<20+1)
		middle := small*(1<<19-1) + less
		great := middle*(1<<20-1) + small
		a := append(n(s.next(), s.next(), s.next()), natural.FromUint64(great)...)
		b := append(n(s.next(), s.next(), s.next()), natural.FromUint64(middle)...)
		wantValue(t, "GCD", natural.GCD(a, b), new(big.Int).GCD(nil, nil, value(a), value(b)))
		a, b = natural.Mul(a, n(5, 5, 5)), natural.Mul(b, n(5, 5, 5))
		wantValue(t, "GCD of multiples", natural.GCD(a, b), new(big.Int).GCD(nil, nil, value(a), value(b)))
	}
}
