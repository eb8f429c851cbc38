package vector_test

import (
	"math"
	"testing"

	"gridmarket/api"
	"gridmarket/vector"
)

// P6.4

// isPermutation says whether p is a permutation, in the words of the chapter.
func isPermutation(p []int) bool {
	count := map[int]int{}
	for _, i := range p {
		count[i]++
	}
	for i := range p {
		if count[i] != 1 {
			return false
		}
	}
	return true
}

// wantPermute reports an error if Permute does not return what the chapter says.
func wantPermute(t *testing.T, v []api.Entry, p []int) {
	t.Helper()
	c, exists := of(v), isPermutation(p)
	for i := range c {
		exists = exists && 0 <= i && i < len(p)
	}
	var expected []api.Entry
	if exists {
		expected = c.moved(p).list()
	}
	got, ok := vector.Permute(v, p)
	if ok != exists {
		t.Errorf("Permute(%v, %v): got %v, want %v", v, p, ok, exists)
	}
	wantList(t, "Permute", got, expected)
}

// eachList calls f for every list of the numbers from -1 to length with this length: all permutations, and lists that are none.
func eachList(length int, f func(p []int)) {
	p := make([]int, length)
	var fill func(i int)
	fill = func(i int) {
		if i == length {
			f(p)
			return
		}
		for p[i] = -1; p[i] <= length; p[i]++ {
			fill(i + 1)
		}
	}
	fill(0)
}

func TestPermute(t *testing.T) {
	vectors := [][]api.Entry{nil, {e(0, 5, 1)}, {e(1, 6, 4)}, {e(0, 1, 2), e(2, 1, 3)}, {e(2, 1, 1), e(1, 2, 1), e(0, 3, 1), e(1, 1, 1)}, {e(0, 1, 1), e(1, 2, 1), e(2, 3, 1), e(3, 4, 1)}, {e(-1, 1, 1)}}
	for length := range 5 {
		eachList(length, func(p []int) {
			for _, v := range vectors {
				wantPermute(t, v, p)
			}
		})
	}
}

func TestPermuteOfAllForms(t *testing.T) {
	s := source(29)
	for _, v := range lists() {
		for _, length := range []int{0, 1, 4, 10, 100} {
			wantPermute(t, v, s.permutation(length))
		}
	}
}

func TestPermuteByOther(t *testing.T) {
	for _, p := range [][]int{
		{1}, {-1}, {0, 0}, {1, 1}, {0, 2}, {2, 1}, {-1, 0}, {0, 1, 1}, {0, 1, 3}, {3, 2, 1}, {0, -1, 1}, {0, math.MaxInt}, {math.MinInt, 0},
	} {
		for _, v := range [][]api.Entry{nil, {}, {e(0, 1, 1)}, {e(1, 1, 1), e(1, -1, 1)}} {
			got, ok := vector.Permute(v, p)
			if ok || len(got) > 0 {
				t.Errorf("Permute(%v, %v): got %v and %v, want false", v, p, got, ok)
			}
		}
	}
}

// A component outside the indices of p may occur in the list if it is 0.
func TestPermuteOutside(t *testing.T) {
	for _, outside := range []int{-1, 3, 7, math.MinInt, math.MaxInt} {
		for _, zero := range zeros() {
			wantPermute(t, []api.Entry{e(2, 1, 2), {Index: outside, Value: zero}}, []int{2, 0, 1})
			wantPermute(t, []api.Entry{{Index: outside, Value: zero}}, nil)
			wantPermute(t, []api.Entry{{Index: outside, Value: zero}}, []int{})
		}
		wantPermute(t, []api.Entry{e(outside, 1, 2), e(0, 1, 1), e(outside, -2, 4)}, []int{2, 0, 1})
		wantPermute(t, []api.Entry{e(outside, 1, 2), e(0, 1, 1)}, []int{2, 0, 1})
		wantPermute(t, []api.Entry{e(outside, 1, 2)}, nil)
	}
	for _, v := range [][]api.Entry{nil, {}, {e(1, 1, 2), e(1, -1, 2)}} {
		if got, ok := vector.Permute(v, nil); !ok || len(got) > 0 {
			t.Errorf("Permute(%v, nil): got %v and %v, want an empty list and true", v, got, ok)
		}
	}
}

// Permuting two vectors in the same way does not change their scalar product; the inverse permutation undoes it.
func TestPermuteKeepsDot(t *testing.T) {
	s := source(31)
	for range 200 {
		length := 1 + s.below(9)
		a, b, p := s.entries(6, 0, length), s.entries(7, 0, length), s.permutation(length)
		inverse := make([]int, length)
		for i, j := range p {
			inverse[j] = i
		}
		x, okX := vector.Permute(a, p)
		y, okY := vector.Permute(b, p)
		back, okBack := vector.Permute(x, inverse)
		if !okX || !okY || !okBack {
			t.Fatalf("Permute of %v or %v by %v: got false", a, b, p)
		}
		wantValue(t, "Dot of permuted vectors", vector.Dot(x, y), value(vector.Dot(a, b)))
		wantList(t, "Permute there and back", back, vector.Norm(a))
	}
}

func TestLongPermutations(t *testing.T) {
	s := source(37)
	for _, length := range []int{1000, 20000} {
		p := s.permutation(length)
		wantPermute(t, s.entries(3000, 0, length), p)
		wantPermute(t, nil, p)
		wantPermute(t, []api.Entry{e(length-1, 1, 2)}, p)
		wantPermute(t, []api.Entry{e(length, 1, 2)}, p)
		p[length/2] = p[length/3]
		wantPermute(t, []api.Entry{e(0, 1, 2)}, p)
	}
}

func TestExamples(t *testing.T) {
	wantList(t, "Norm", vector.Norm([]api.Entry{e(3, 1, 2), e(1, 2, 1), e(3, -1, 2)}), []api.Entry{e(1, 2, 1)})
	wantValue(t, "Dot", vector.Dot([]api.Entry{e(0, 2, 1), e(5, 3, 1)}, []api.Entry{e(5, 1, 3), e(7, 1, 1)}), value(frac(1, 1)))
	got, ok := vector.Permute([]api.Entry{e(0, 5, 1)}, []int{2, 0, 1})
	if !ok {
		t.Errorf("Permute: got false")
	}
	wantList(t, "Permute", got, []api.Entry{e(2, 5, 1)})
}
