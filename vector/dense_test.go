package vector_test

import (
	"math"
	"math/big"
	"testing"

	"gridmarket/api"
	"gridmarket/vector"
)

// P6.2

// ofDense contains the components of the vector of a list of numbers.
func ofDense(l []api.Rat) components {
	c := components{}
	for i, a := range l {
		c[i] = value(a)
	}
	return c.trimmed()
}

func TestFromDense(t *testing.T) {
	s := source(5)
	for length := range 40 {
		for range 5 {
			l := make([]api.Rat, length)
			for i := range l {
				l[i] = s.number()
			}
			wantList(t, "FromDense", vector.FromDense(l), ofDense(l).list())
		}
	}
}

func TestFromDenseWithZeros(t *testing.T) {
	wantList(t, "FromDense of nil", vector.FromDense(nil), nil)
	wantList(t, "FromDense of an empty list", vector.FromDense([]api.Rat{}), nil)
	wantList(t, "FromDense of zeros", vector.FromDense(zeros()), nil)
	for _, zero := range zeros() {
		wantList(t, "FromDense of one 0", vector.FromDense([]api.Rat{zero}), nil)
		wantList(t, "FromDense of zeros between others", vector.FromDense([]api.Rat{zero, frac(2, 4), zero, zero, loose(frac(-3, 5)), zero}), []api.Entry{e(1, 1, 2), e(4, -3, 5)})
	}
}

// wantDense reports an error if Dense does not return what the chapter says.
func wantDense(t *testing.T, v []api.Entry, n int) {
	t.Helper()
	c, exists := of(v), 0 <= n && n <= api.MaxDim
	for i := range c {
		exists = exists && 0 <= i && i < n
	}
	got, ok := vector.Dense(v, n)
	if !exists {
		n = 0
	}
	if ok != exists || len(got) != n {
		t.Fatalf("Dense(%v, %d): got %d components and %v, want %d and %v", v, n, len(got), ok, n, exists)
	}
	for i, a := range got {
		wantValue(t, "Dense", a, c.at(i))
	}
}

func TestDense(t *testing.T) {
	for _, v := range lists() {
		for _, n := range []int{math.MinInt, -1, 0, 1, 2, 3, 4, 5, 6, 20, 100, api.MaxDim + 1, math.MaxInt} {
			wantDense(t, v, n)
		}
	}
}

func TestDenseAtTheEdges(t *testing.T) {
	for _, v := range [][]api.Entry{
		nil, {}, {e(0, 1, 1)}, {e(api.MaxDim-1, 1, 1)}, {e(api.MaxDim, 1, 1)}, {e(-1, 1, 1)}, {e(math.MinInt, 1, 1)}, {e(math.MaxInt, 1, 1)},
		{e(api.MaxDim-1, 6, 4), e(0, 1, 2), e(api.MaxDim, 1, 1), e(0, 1, 2), e(api.MaxDim, -1, 1), e(-1, 1, 1), e(-1, -1, 1)},
	} {
		for _, n := range []int{-1, 0, 1, api.MaxDim - 1, api.MaxDim, api.MaxDim + 1} {
			wantDense(t, v, n)
		}
	}
}

// A component outside of 0 to n-1 may occur in the list if it is 0.
func TestDenseOutside(t *testing.T) {
	for _, outside := range []int{-1, 3, 7, -9, math.MinInt, math.MaxInt} {
		for _, zero := range zeros() {
			wantDense(t, []api.Entry{e(2, 1, 2), {Index: outside, Value: zero}}, 3)
			wantDense(t, []api.Entry{{Index: outside, Value: zero}}, 0)
		}
		wantDense(t, []api.Entry{e(outside, 1, 2), e(1, 3, 1), e(outside, -2, 4)}, 3)
		wantDense(t, []api.Entry{e(outside, 1, 2), e(1, 3, 1), e(outside, -1, 4)}, 3)
		wantDense(t, []api.Entry{e(outside, 1, 2)}, 0)
	}
}

func TestDenseIsTheInverseOfFromDense(t *testing.T) {
	s := source(7)
	for length := range 30 {
		l := make([]api.Rat, length)
		for i := range l {
			l[i] = s.number()
		}
		got, ok := vector.Dense(vector.FromDense(l), length)
		if !ok || len(got) != length {
			t.Fatalf("Dense: got %v and %v, want %d components", got, ok, length)
		}
		for i, a := range l {
			wantValue(t, "Dense", got[i], value(a))
		}
	}
	got, ok := vector.Dense([]api.Entry{e(1, 2, 1)}, 3)
	if !ok || len(got) != 3 {
		t.Fatalf("Dense: got %v and %v, want 3 components", got, ok)
	}
	for i, expected := range []int64{0, 2, 0} {
		wantValue(t, "Dense", got[i], big.NewRat(expected, 1))
	}
}
