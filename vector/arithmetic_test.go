package vector_test

import (
	"math/big"
	"testing"

	"gridmarket/api"
	"gridmarket/vector"
)

// P6.3

// factors are numbers of all forms.
func factors() []api.Rat {
	return append(zeros(), frac(1, 1), frac(-1, 1), frac(4, 6), frac(-7, 2), loose(frac(2, 3)), api.Rat{Num: neg(0, 0, 5), Den: n(0, 6, 0)})
}

func TestAdd(t *testing.T) {
	for _, a := range lists() {
		for _, b := range lists() {
			wantList(t, "Add", vector.Add(a, b), of(a).plus(big.NewRat(1, 1), of(b)).list())
		}
	}
}

func TestScale(t *testing.T) {
	for _, v := range lists() {
		for _, f := range factors() {
			wantList(t, "Scale", vector.Scale(f, v), components{}.plus(value(f), of(v)).list())
		}
	}
}

func TestAddScaled(t *testing.T) {
	all := lists()
	for i, a := range all {
		for _, b := range append([][]api.Entry{all[(i*7+3)%len(all)], all[(i*5+11)%len(all)], a}, all[:20]...) {
			for _, f := range factors() {
				wantList(t, "AddScaled", vector.AddScaled(a, f, b), of(a).plus(value(f), of(b)).list())
			}
		}
	}
}

func TestDot(t *testing.T) {
	for _, a := range lists() {
		for _, b := range lists() {
			wantValue(t, "Dot", vector.Dot(a, b), of(a).dot(of(b)))
		}
	}
}

func TestWithZero(t *testing.T) {
	for _, zero := range zeros() {
		for _, v := range lists() {
			nothing := []api.Entry{{Index: 1, Value: zero}, {Index: -2, Value: zero}, {Index: 1, Value: zero}}
			wantList(t, "Scale by 0", vector.Scale(zero, v), nil)
			wantList(t, "AddScaled with the factor 0", vector.AddScaled(v, zero, []api.Entry{e(1, 1, 2), e(3, 1, 1)}), vector.Norm(v))
			wantList(t, "AddScaled to nothing", vector.AddScaled(nothing, frac(1, 1), v), vector.Norm(v))
			wantList(t, "AddScaled of nothing", vector.AddScaled(v, frac(1, 2), nothing), vector.Norm(v))
			wantList(t, "Add of nothing", vector.Add(v, nothing), vector.Norm(v))
			wantList(t, "Add to nothing", vector.Add(nothing, v), vector.Norm(v))
			wantValue(t, "Dot with nothing", vector.Dot(v, nothing), new(big.Rat))
			wantValue(t, "Dot of nothing", vector.Dot(nothing, v), new(big.Rat))
		}
	}
}

func TestSumsThatCancel(t *testing.T) {
	s := source(13)
	for _, v := range lists() {
		opposite := vector.Scale(frac(-1, 1), s.disguised(v))
		wantList(t, "v - v", vector.Add(v, opposite), nil)
		wantList(t, "v + -1 v", vector.AddScaled(v, frac(-2, 2), s.disguised(v)), nil)
		wantList(t, "v - 2 (v / 2)", vector.AddScaled(v, frac(-2, 1), vector.Scale(frac(1, 2), v)), nil)
	}
	a, b := []api.Entry{e(0, 1, 2), e(1, 1, 1), e(3, 2, 3)}, []api.Entry{e(0, 1, 2), e(1, -1, 1), e(2, 1, 1), e(3, 1, 3)}
	wantList(t, "Add where one component cancels", vector.Add(a, b), []api.Entry{e(0, 1, 1), e(2, 1, 1), e(3, 1, 1)})
	wantList(t, "AddScaled where one component cancels", vector.AddScaled(a, frac(-2, 1), b), []api.Entry{e(0, -1, 2), e(1, 3, 1), e(2, -2, 1)})
	wantValue(t, "Dot whose products cancel", vector.Dot(a, []api.Entry{e(0, 2, 1), e(1, -3, 1), e(3, 3, 1)}), new(big.Rat))
	wantValue(t, "Dot without an index in common", vector.Dot([]api.Entry{e(0, 1, 1), e(2, 1, 1)}, []api.Entry{e(1, 1, 1), e(3, 1, 1)}), new(big.Rat))
}

// Except for Valid, the functions depend only on the vectors that their arguments denote.
func TestFormsOfArguments(t *testing.T) {
	s := source(17)
	for _, a := range lists() {
		b := s.entries(8, -2, 7)
		x, y, f := s.disguised(a), s.disguised(b), loose(frac(-5, 3))
		wantList(t, "Norm", vector.Norm(x), vector.Norm(a))
		wantList(t, "Add", vector.Add(x, y), vector.Add(a, b))
		wantList(t, "Scale", vector.Scale(f, x), vector.Scale(frac(-5, 3), a))
		wantList(t, "AddScaled", vector.AddScaled(x, f, y), vector.AddScaled(a, frac(-5, 3), b))
		wantValue(t, "Dot", vector.Dot(x, y), value(vector.Dot(a, b)))
	}
}

// Dot is symmetric and bilinear.
func TestDotIsBilinear(t *testing.T) {
	s := source(19)
	for range 300 {
		a, b, c, f := s.entries(6, -2, 5), s.entries(5, -2, 5), s.entries(6, -2, 5), s.number()
		ac, bc := value(vector.Dot(a, c)), value(vector.Dot(b, c))
		expected := new(big.Rat).Add(ac, new(big.Rat).Mul(value(f), bc))
		wantValue(t, "a c = c a", vector.Dot(c, a), ac)
		wantValue(t, "(a + f b) c = a c + f (b c)", vector.Dot(vector.AddScaled(a, f, b), c), expected)
		wantValue(t, "c (a + f b) = c a + f (c b)", vector.Dot(c, vector.AddScaled(a, f, b)), expected)
		wantValue(t, "(f b) c = f (b c)", vector.Dot(vector.Scale(f, b), c), new(big.Rat).Mul(value(f), bc))
		wantValue(t, "(a + b) c = a c + b c", vector.Dot(vector.Add(a, b), c), new(big.Rat).Add(ac, bc))
	}
}

func TestLongLists(t *testing.T) {
	s := source(23)
	const length = 2000
	for _, pair := range [][2][]api.Entry{
		{s.entries(length, -500, 1500), s.entries(length, -900, 1500)},
		{s.ascending(length, -100), s.ascending(length, 0)},
		{s.entries(length, 0, 3), s.ascending(length, 0)},
		{s.entries(length, 0, 1), s.entries(length, 0, 1)},
	} {
		a, b, f := pair[0], pair[1], frac(-3, 7)
		c, d := of(a), of(b)
		wantList(t, "Norm", vector.Norm(a), c.list())
		wantList(t, "Add", vector.Add(a, b), c.plus(big.NewRat(1, 1), d).list())
		wantList(t, "AddScaled", vector.AddScaled(a, f, b), c.plus(big.NewRat(-3, 7), d).list())
		wantList(t, "Scale", vector.Scale(f, a), components{}.plus(big.NewRat(-3, 7), c).list())
		wantValue(t, "Dot", vector.Dot(a, b), c.dot(d))
		if !vector.Equal(a, s.disguised(a)) || vector.Equal(a, append(s.disguised(a), e(7, 1, 9))) {
			t.Errorf("Equal of long lists: got the opposite")
		}
	}
}
