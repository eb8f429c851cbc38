package matrix_test

import (
	"math/big"
	"slices"
	"testing"

	"gridmarket/api"
	"gridmarket/matrix"
)

// P7.2 and P7.3

// factors are numbers of many forms.
func factors() []api.Rat {
	return append(zeros(), frac(1, 1), frac(-1, 1), frac(-7, 2), loose(frac(2, 3)))
}

func TestTranspose(t *testing.T) {
	for _, m := range matrices() {
		got, code := matrix.Transpose(m)
		wantMatrix(t, "Transpose", got, code, of(m).transposed())
		back, code := matrix.Transpose(got)
		wantMatrix(t, "Transpose of Transpose", back, code, of(m))
	}
	for name, m := range invalid() {
		got, code := matrix.Transpose(m)
		wantNoMatrix(t, "Transpose where "+name, got, code, api.ErrInvalid)
	}
}

func TestAdd(t *testing.T) {
	for _, a := range matrices() {
		for _, b := range matrices() {
			for _, f := range factors() {
				got, code := matrix.Add(a, f, b)
				if a.Rows != b.Rows || a.Cols != b.Cols {
					wantNoMatrix(t, "Add of other sizes", got, code, api.ErrShape)
					continue
				}
				wantMatrix(t, "Add", got, code, of(a).plus(value(f), of(b)))
			}
		}
	}
}

func TestAddThatCancels(t *testing.T) {
	for _, m := range matrices() {
		got, code := matrix.Add(m, loose(frac(-1, 1)), disguised(m))
		wantMatrix(t, "m - m", got, code, newGrid(m.Rows, m.Cols))
		for _, zero := range zeros() {
			got, code := matrix.Add(m, zero, m)
			wantMatrix(t, "m + 0 m", got, code, of(m))
		}
	}
	got, code := matrix.Add(whole([]int64{1, 2, 3}, []int64{4, 0, 6}), frac(-1, 2), whole([]int64{2, 2, 6}, []int64{0, 2, 12}))
	wantMatrix(t, "Add where elements cancel", got, code, of(whole([]int64{0, 1, 0}, []int64{4, -1, 0})))
}

func TestMul(t *testing.T) {
	for _, a := range matrices() {
		for _, b := range matrices() {
			got, code := matrix.Mul(a, b)
			if a.Cols != b.Rows {
				wantNoMatrix(t, "Mul of sizes that do not fit", got, code, api.ErrShape)
				continue
			}
			wantMatrix(t, "Mul", got, code, of(a).times(of(b)))
		}
	}
}

func TestMulAtTheEdges(t *testing.T) {
	for _, x := range []struct{ rows, middle, cols int }{{0, 0, 0}, {0, 3, 2}, {2, 3, 0}, {2, 0, 3}, {0, 0, 2}, {2, 0, 0}, {api.MaxDim, 0, 1}, {0, api.MaxDim, 0}} {
		got, code := matrix.Mul(empty(x.rows, x.middle), empty(x.middle, x.cols))
		wantMatrix(t, "Mul without elements", got, code, newGrid(x.rows, x.cols))
	}
	got, code := matrix.Mul(whole([]int64{1, 2, 1}, []int64{1, 1, 1}), whole([]int64{2, 1}, []int64{-1, 1}, []int64{0, -3}))
	wantMatrix(t, "Mul with sums that cancel", got, code, of(whole([]int64{0, 0}, []int64{1, -1})))
	for _, m := range matrices() {
		left, _ := matrix.Identity(m.Rows)
		right, _ := matrix.Identity(m.Cols)
		got, code := matrix.Mul(left, m)
		wantMatrix(t, "1 m", got, code, of(m))
		got, code = matrix.Mul(m, right)
		wantMatrix(t, "m 1", got, code, of(m))
	}
}

// ErrInvalid comes before ErrShape, whichever argument is not valid.
func TestPairsThatAreInvalid(t *testing.T) {
	for name, m := range invalid() {
		for _, other := range append(matrices(), m) {
			for _, pair := range [][2]api.Matrix{{m, other}, {other, m}} {
				got, code := matrix.Add(pair[0], frac(1, 1), pair[1])
				wantNoMatrix(t, "Add where "+name, got, code, api.ErrInvalid)
				got, code = matrix.Add(pair[0], api.Rat{}, pair[1])
				wantNoMatrix(t, "Add with the factor 0 where "+name, got, code, api.ErrInvalid)
				got, code = matrix.Mul(pair[0], pair[1])
				wantNoMatrix(t, "Mul where "+name, got, code, api.ErrInvalid)
			}
		}
	}
}

func TestApply(t *testing.T) {
	s := source(5)
	for _, m := range matrices() {
		for range 5 {
			x, y := s.numbers(m.Cols), s.numbers(m.Rows)
			got, code := matrix.Apply(m, x)
			wantValues(t, "Apply", got, code, of(m).times(column(x)).list())
			got, code = matrix.ApplyT(m, y)
			wantValues(t, "ApplyT", got, code, of(m).transposed().times(column(y)).list())
		}
	}
	m := whole([]int64{1, 2, 1}, []int64{1, 0, 3})
	got, code := matrix.Apply(m, []api.Rat{frac(1, 1), frac(-1, 1), frac(2, 2)})
	wantValues(t, "Apply with a sum that cancels", got, code, []*big.Rat{new(big.Rat), big.NewRat(4, 1)})
	got, code = matrix.ApplyT(m, []api.Rat{frac(1, 2), frac(-2, 4)})
	wantValues(t, "ApplyT with a sum that cancels", got, code, []*big.Rat{new(big.Rat), big.NewRat(1, 1), big.NewRat(-1, 1)})
}

func TestApplyToZeros(t *testing.T) {
	m := whole([]int64{1, 2, 0, 4, 5}, []int64{0, 0, 0, 0, 1}, []int64{1, 1, 1, 1, 1}, []int64{0, 0, 0, 0, 0}, []int64{-1, 0, 0, 0, 0})
	got, code := matrix.Apply(m, zeros())
	wantValues(t, "Apply to zeros", got, code, newGrid(5, 1).list())
	got, code = matrix.ApplyT(m, zeros())
	wantValues(t, "ApplyT to zeros", got, code, newGrid(5, 1).list())
}

func TestApplyToOtherLengths(t *testing.T) {
	s := source(7)
	for _, m := range matrices() {
		for length := range 15 {
			l := s.numbers(length)
			if got, code := matrix.Apply(m, l); length != m.Cols {
				wantNoList(t, "Apply to another length", got, code, api.ErrShape)
			}
			if got, code := matrix.ApplyT(m, l); length != m.Rows {
				wantNoList(t, "ApplyT to another length", got, code, api.ErrShape)
			}
		}
	}
	for name, m := range invalid() {
		for length := range 5 {
			l := s.numbers(length)
			got, code := matrix.Apply(m, l)
			wantNoList(t, "Apply where "+name, got, code, api.ErrInvalid)
			got, code = matrix.ApplyT(m, l)
			wantNoList(t, "ApplyT where "+name, got, code, api.ErrInvalid)
		}
	}
}

// The transposed product of a and b is the product of the transposed b and the transposed a.
func TestTransposeReversesProducts(t *testing.T) {
	s := source(11)
	for range 100 {
		rows, middle, cols := s.below(5), s.below(5), s.below(5)
		a, b := s.matrix(rows, middle, 2), s.matrix(middle, cols, 2)
		product, okProduct := matrix.Mul(a, b)
		left, okLeft := matrix.Transpose(product)
		turnedA, okA := matrix.Transpose(a)
		turnedB, okB := matrix.Transpose(b)
		right, okRight := matrix.Mul(turnedB, turnedA)
		if codes := []api.Errno{okProduct, okLeft, okA, okB, okRight}; slices.Max(codes) != api.OK {
			t.Fatalf("got the errors %v", codes)
		}
		if !matrix.Equal(left, right) || len(left.Data) != cols || left.Cols != rows {
			t.Errorf("the transposed product of %v and %v: got %v and %v", a, b, left, right)
		}
	}
}

// Functions that depend on the values of the elements only return the same for all forms of them.
func TestFormsOfElements(t *testing.T) {
	s := source(13)
	for range 50 {
		a, b, f := s.matrix(4, 4, 2), s.matrix(4, 4, 2), s.number()
		x, y := disguised(a), disguised(b)
		got, code := matrix.Add(x, loose(f), y)
		wantMatrix(t, "Add", got, code, of(a).plus(value(f), of(b)))
		got, code = matrix.Mul(x, y)
		wantMatrix(t, "Mul", got, code, of(a).times(of(b)))
		got, code = matrix.Transpose(x)
		wantMatrix(t, "Transpose", got, code, of(a).transposed())
	}
}
