package vector_test

import (
	"maps"
	"math"
	"math/big"
	"slices"
	"testing"

	"gridmarket/api"
	"gridmarket/vector"
)

// P6.1

// isValid says what Valid reports, in the words of the chapter.
func isValid(v []api.Entry, n int) bool {
	for i, entry := range v {
		if i > 0 && entry.Index <= v[i-1].Index || entry.Index < 0 || entry.Index >= n || value(entry.Value).Sign() == 0 {
			return false
		}
	}
	return true
}

func TestValid(t *testing.T) {
	for _, v := range lists() {
		for _, n := range []int{math.MinInt, -1, 0, 1, 2, 3, 4, 5, 20, 59, 200, math.MaxInt} {
			if got := vector.Valid(v, n); got != isValid(v, n) {
				t.Errorf("Valid(%v, %d): got %v", v, n, got)
			}
		}
	}
}

func TestValidAtTheEdges(t *testing.T) {
	for _, x := range []struct {
		name  string
		v     []api.Entry
		n     int
		valid bool
	}{
		{"empty, n is 1", nil, 1, true},
		{"empty, n is 0", []api.Entry{}, 0, true},
		{"nil, n is 0", nil, 0, true},
		{"empty, n is negative", nil, -1, true},
		{"empty, n is the least number", nil, math.MinInt, true},
		{"index n - 1", []api.Entry{e(4, 1, 1)}, 5, true},
		{"index n", []api.Entry{e(5, 1, 1)}, 5, false},
		{"index n behind others", []api.Entry{e(0, 1, 1), e(5, 1, 1)}, 5, false},
		{"index 0, n is 1", []api.Entry{e(0, 1, 1)}, 1, true},
		{"index 0, n is 0", []api.Entry{e(0, 1, 1)}, 0, false},
		{"index 0, n is negative", []api.Entry{e(0, 1, 1)}, -1, false},
		{"index -1", []api.Entry{e(-1, 1, 1)}, 5, false},
		{"index -1 before others", []api.Entry{e(-1, 1, 1), e(0, 1, 1)}, 5, false},
		{"index -2, n is -1", []api.Entry{e(-2, 1, 1)}, -1, false},
		{"greatest index", []api.Entry{e(math.MaxInt-1, 1, 1)}, math.MaxInt, true},
		{"all indices", []api.Entry{e(0, 1, 1), e(1, 1, 1), e(2, 1, 1)}, 3, true},
		{"repeated index", []api.Entry{e(1, 1, 1), e(1, 1, 1)}, 3, false},
		{"descending indices", []api.Entry{e(1, 1, 1), e(0, 1, 1)}, 3, false},
		{"a descent between ascents", []api.Entry{e(0, 1, 1), e(2, 1, 1), e(1, 1, 1), e(3, 1, 1)}, 4, false},
		{"an index below 0 between others", []api.Entry{e(0, 1, 1), e(-1, 1, 1), e(1, 1, 1)}, 4, false},
		{"an index above n between others", []api.Entry{e(0, 1, 1), e(9, 1, 1), e(1, 1, 1)}, 4, false},
	} {
		if got := vector.Valid(x.v, x.n); got != x.valid {
			t.Errorf("%s: got %v", x.name, got)
		}
	}
}

func TestValidDependsOnTheValuesOfNumbers(t *testing.T) {
	for _, a := range []api.Rat{frac(6, 4), frac(-2, 2), loose(frac(1, 3)), {Num: pos(0, 1, 0), Den: n(3, 0)}} {
		if v := []api.Entry{e(0, 1, 1), {Index: 1, Value: a}, e(2, 1, 1)}; !vector.Valid(v, 3) {
			t.Errorf("Valid(%v, 3): got false although no value is 0", v)
		}
	}
	for _, zero := range zeros() {
		for i := range 3 {
			v := []api.Entry{e(0, 1, 1), e(1, 1, 1), e(2, 1, 1)}
			v[i].Value = zero
			if vector.Valid(v, 3) {
				t.Errorf("Valid(%v, 3): got true although a value is 0", v)
			}
		}
	}
}

func TestNorm(t *testing.T) {
	for _, v := range lists() {
		wantList(t, "Norm", vector.Norm(v), of(v).list())
	}
}

func TestNormAtTheEdges(t *testing.T) {
	for _, x := range []struct {
		name        string
		v, expected []api.Entry
	}{
		{"empty", []api.Entry{}, nil},
		{"nil", nil, nil},
		{"negative indices", []api.Entry{e(-1, 1, 2), e(-7, 1, 2)}, []api.Entry{e(-7, 1, 2), e(-1, 1, 2)}},
		{"out of order", []api.Entry{e(2, 1, 1), e(1, 5, 1), e(0, 3, 1)}, []api.Entry{e(0, 3, 1), e(1, 5, 1), e(2, 1, 1)}},
		{"repeated", []api.Entry{e(2, 1, 2), e(2, 1, 3)}, []api.Entry{e(2, 5, 6)}},
		{"repeated, apart", []api.Entry{e(2, 1, 2), e(0, 1, 1), e(2, 1, 3)}, []api.Entry{e(0, 1, 1), e(2, 5, 6)}},
		{"adding up to 0", []api.Entry{e(2, 1, 2), e(2, -3, 6)}, nil},
		{"adding up to 0 among others", []api.Entry{e(1, 1, 1), e(2, 1, 2), e(2, -1, 2), e(3, 1, 1)}, []api.Entry{e(1, 1, 1), e(3, 1, 1)}},
		{"three that add up to 0", []api.Entry{e(2, 1, 2), e(2, 1, 2), e(2, -1, 1)}, nil},
		{"not in lowest terms", []api.Entry{e(0, 6, 4), e(1, -4, 2)}, []api.Entry{e(0, 3, 2), e(1, -2, 1)}},
		{"greatest and least indices", []api.Entry{e(math.MaxInt, 1, 1), e(0, 1, 1), e(math.MinInt, 1, 1)}, []api.Entry{e(math.MinInt, 1, 1), e(0, 1, 1), e(math.MaxInt, 1, 1)}},
	} {
		wantList(t, x.name, vector.Norm(x.v), x.expected)
	}
	for _, zero := range zeros() {
		wantList(t, "a value of 0", vector.Norm([]api.Entry{{Index: 3, Value: zero}}), nil)
		wantList(t, "values of 0 among others", vector.Norm([]api.Entry{e(0, 1, 1), {Index: 1, Value: zero}, e(2, 1, 1), {Index: 2, Value: zero}}), []api.Entry{e(0, 1, 1), e(2, 1, 1)})
	}
}

func TestNormIsValid(t *testing.T) {
	s := source(2)
	for length := range 20 {
		v := s.entries(length, 0, 6)
		got := vector.Norm(v)
		if !vector.Valid(got, 6) {
			t.Errorf("Norm(%v) is not valid: %v", v, got)
		}
		wantList(t, "Norm of Norm", vector.Norm(got), got)
	}
}

func TestGet(t *testing.T) {
	for _, v := range lists() {
		c := of(v)
		for _, i := range []int{math.MinInt, -5, -4, -3, -2, -1, 0, 1, 2, 3, 4, 5, 6, 7, 20, 100, math.MaxInt} {
			wantValue(t, "Get", vector.Get(v, i), c.at(i))
		}
		for _, entry := range v {
			wantValue(t, "Get", vector.Get(v, entry.Index), c.at(entry.Index))
		}
	}
}

func TestGetAtTheEdges(t *testing.T) {
	for _, v := range [][]api.Entry{nil, {}, {e(1, 1, 1)}, {e(0, 1, 1), e(0, -2, 2)}, {{Index: 0, Value: api.Rat{Num: pos(1)}}}} {
		wantValue(t, "Get of a component that is 0", vector.Get(v, 0), new(big.Rat))
	}
	wantValue(t, "Get of one entry that is not canonical", vector.Get([]api.Entry{e(1, 6, 4)}, 1), big.NewRat(3, 2))
	wantValue(t, "Get of entries that are apart", vector.Get([]api.Entry{e(1, 1, 2), e(3, 1, 1), e(1, 1, 3), e(0, 1, 1), e(1, 1, 6)}, 1), big.NewRat(1, 1))
}

func TestSupport(t *testing.T) {
	for _, v := range lists() {
		if got := vector.Support(v); !slices.Equal(got, of(v).indices()) {
			t.Errorf("Support(%v): got %v, want %v", v, got, of(v).indices())
		}
	}
	for _, zero := range zeros() {
		v := []api.Entry{e(4, 1, 1), {Index: 2, Value: zero}, e(-3, 1, 1), e(0, 1, 2), e(0, -1, 2)}
		if got := vector.Support(v); !slices.Equal(got, []int{-3, 4}) {
			t.Errorf("Support(%v): got %v, want -3 and 4", v, got)
		}
	}
}

func TestEqual(t *testing.T) {
	for _, a := range lists() {
		for _, b := range lists() {
			same := maps.EqualFunc(of(a), of(b), func(x, y *big.Rat) bool { return x.Cmp(y) == 0 })
			if got := vector.Equal(a, b); got != same {
				t.Errorf("Equal(%v, %v): got %v", a, b, got)
			}
		}
	}
}

func TestEqualOfOtherForms(t *testing.T) {
	s := source(3)
	for _, a := range lists() {
		b := s.disguised(a)
		if !vector.Equal(a, b) || !vector.Equal(b, a) || !vector.Equal(a, vector.Norm(b)) {
			t.Errorf("Equal(%v, %v): got false", a, b)
		}
		for _, other := range []api.Entry{e(2, 1, 7), e(-9, 1, 1), e(math.MaxInt, -1, 3)} {
			if c := append(slices.Clone(b), other); vector.Equal(a, c) || vector.Equal(c, a) {
				t.Errorf("Equal(%v, %v): got true", a, c)
			}
		}
	}
}

func TestEqualAtTheEdges(t *testing.T) {
	for _, zero := range zeros() {
		for _, v := range [][]api.Entry{nil, {}, {{Index: 1, Value: zero}}, {e(2, 1, 1), e(2, -1, 1), {Index: -4, Value: zero}}} {
			if !vector.Equal(v, nil) || !vector.Equal(nil, v) || vector.Equal(v, []api.Entry{e(1, 1, 1)}) {
				t.Errorf("%v is not the vector of zeros", v)
			}
		}
	}
	for _, b := range [][]api.Entry{{e(1, 1, 2), e(2, 1, 3)}, {e(1, 1, 2)}, {e(1, 1, 2), e(2, -1, 2)}, {e(1, 1, 2), e(3, 1, 2)}, {e(0, 1, 2), e(2, 1, 2)}, {e(1, 1, 2), e(2, 1, 2), e(3, 1, 2)}} {
		if a := []api.Entry{e(1, 1, 2), e(2, 1, 2)}; vector.Equal(a, b) || vector.Equal(b, a) {
			t.Errorf("Equal(%v, %v): got true", a, b)
		}
	}
}
