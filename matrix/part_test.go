package matrix_test

import (
	"math"
	"math/big"
	"slices"
	"testing"

	"gridmarket/api"
	"gridmarket/matrix"
)

// P7.4 and P7.5

func TestSelect(t *testing.T) {
	s := source(15)
	for _, m := range matrices() {
		for length := range 9 {
			rows, cols := s.indices(length, m.Rows), s.indices(s.below(9), m.Cols)
			got, code := matrix.Select(m, rows, cols)
			wantMatrix(t, "Select", got, code, of(m).selected(rows, cols))
			got, code = matrix.Select(m, nil, cols)
			wantMatrix(t, "Select of no rows", got, code, newGrid(0, len(cols)))
			got, code = matrix.Select(m, rows, []int{})
			wantMatrix(t, "Select of no columns", got, code, newGrid(len(rows), 0))
		}
		got, code := matrix.Select(m, others(m.Rows, -1), others(m.Cols, -1))
		wantMatrix(t, "Select of everything", got, code, of(m))
	}
	got, code := matrix.Select(whole([]int64{1, 0, 3}), []int{0, 0}, []int{2, 1, 2, 0, 2})
	wantMatrix(t, "Select with repeated indices", got, code, of(whole([]int64{3, 0, 3, 1, 3}, []int64{3, 0, 3, 1, 3})))
}

func TestSelectOutOfRange(t *testing.T) {
	m := whole([]int64{1, 2, 3}, []int64{4, 5, 6})
	for _, x := range []struct{ rows, cols []int }{
		{[]int{2}, nil}, {[]int{-1}, nil}, {nil, []int{3}}, {nil, []int{-1}}, {[]int{0, 1, 2}, []int{0}}, {[]int{1}, []int{0, 3, 1}},
		{[]int{math.MinInt}, []int{0}}, {[]int{math.MaxInt}, []int{0}}, {[]int{0}, []int{math.MinInt}}, {[]int{0}, []int{math.MaxInt}},
	} {
		got, code := matrix.Select(m, x.rows, x.cols)
		wantNoMatrix(t, "Select out of range", got, code, api.ErrRange)
		for name, m := range invalid() {
			got, code := matrix.Select(m, x.rows, x.cols)
			wantNoMatrix(t, "Select where "+name, got, code, api.ErrInvalid)
		}
	}
	for _, m := range []api.Matrix{{}, empty(0, 3), empty(3, 0)} {
		got, code := matrix.Select(m, []int{0}, []int{0})
		wantNoMatrix(t, "Select of a matrix without elements", got, code, api.ErrRange)
	}
}

// repeated is a list with the same number length times.
func repeated(number, length int) []int { return slices.Repeat([]int{number}, length) }

func TestSelectAtTheLimit(t *testing.T) {
	m := whole([]int64{0, 7})
	expected := newGrid(api.MaxDim, 1)
	for _, row := range expected.elements {
		row[0] = big.NewRat(7, 1)
	}
	got, code := matrix.Select(m, repeated(0, api.MaxDim), []int{1})
	wantMatrix(t, "Select of MaxDim rows", got, code, expected)
	got, code = matrix.Select(m, []int{0}, repeated(1, api.MaxDim))
	wantMatrix(t, "Select of MaxDim columns", got, code, expected.transposed())
	many := repeated(0, api.MaxDim+1)
	got, code = matrix.Select(m, many, []int{0})
	wantNoMatrix(t, "Select of more than MaxDim rows", got, code, api.ErrLimit)
	got, code = matrix.Select(m, nil, many)
	wantNoMatrix(t, "Select of more than MaxDim columns", got, code, api.ErrLimit)
	got, code = matrix.Select(m, many, []int{2})
	wantNoMatrix(t, "Select of more than MaxDim rows and a column out of range", got, code, api.ErrRange)
	got, code = matrix.Select(m, []int{-1}, many)
	wantNoMatrix(t, "Select of a row out of range and more than MaxDim columns", got, code, api.ErrRange)
	got, code = matrix.Select(m, append(many, 1), nil)
	wantNoMatrix(t, "Select of more than MaxDim rows, one of them out of range", got, code, api.ErrRange)
	for name, m := range invalid() {
		got, code = matrix.Select(m, many, nil)
		wantNoMatrix(t, "Select of more than MaxDim rows where "+name, got, code, api.ErrInvalid)
	}
}

func TestPivot(t *testing.T) {
	for _, m := range matrices() {
		for i, row := range of(m).elements {
			for j, p := range row {
				got, code := matrix.Pivot(m, i, j)
				if p.Sign() == 0 {
					wantNoMatrix(t, "Pivot at 0", got, code, api.ErrZero)
					continue
				}
				wantMatrix(t, "Pivot", got, code, of(m).pivoted(i, j))
			}
		}
	}
}

func TestPivotAtTheEdges(t *testing.T) {
	got, code := matrix.Pivot(whole([]int64{5}), 0, 0)
	wantMatrix(t, "Pivot of one element", got, code, newGrid(0, 0))
	got, code = matrix.Pivot(whole([]int64{5, 0, 7}), 0, 2)
	wantMatrix(t, "Pivot of one row", got, code, newGrid(0, 2))
	got, code = matrix.Pivot(whole([]int64{5}, []int64{0}, []int64{7}), 2, 0)
	wantMatrix(t, "Pivot of one column", got, code, newGrid(2, 0))
	got, code = matrix.Pivot(whole([]int64{2, 4, 0}, []int64{1, 2, 3}, []int64{0, 5, 6}), 0, 0)
	wantMatrix(t, "Pivot with a difference that is 0", got, code, of(whole([]int64{0, 3}, []int64{5, 6})))
}

func TestPivotOutOfRange(t *testing.T) {
	outside := [][2]int{{-1, 0}, {0, -1}, {2, 0}, {0, 3}, {2, 2}, {math.MinInt, 0}, {0, math.MinInt}, {math.MaxInt, 0}, {0, math.MaxInt}, {-1, -1}}
	for _, m := range []api.Matrix{whole([]int64{1, 2, 3}, []int64{4, 5, 6}), empty(2, 3)} {
		for _, x := range outside {
			got, code := matrix.Pivot(m, x[0], x[1])
			wantNoMatrix(t, "Pivot out of range", got, code, api.ErrRange)
		}
		if got, code := matrix.Pivot(m, 0, 0); len(m.Data[0]) == 0 {
			wantNoMatrix(t, "Pivot at 0", got, code, api.ErrZero)
		}
	}
	for _, m := range []api.Matrix{{}, empty(0, 3), empty(3, 0)} {
		got, code := matrix.Pivot(m, 0, 0)
		wantNoMatrix(t, "Pivot of a matrix without elements", got, code, api.ErrRange)
	}
	for name, m := range invalid() {
		for _, x := range append(outside, [2]int{0, 0}, [2]int{1, 1}) {
			got, code := matrix.Pivot(m, x[0], x[1])
			wantNoMatrix(t, "Pivot where "+name, got, code, api.ErrInvalid)
		}
	}
}

// If m x = b, then Pivot(m, i, j), applied to x without its element j, returns b[r] - m[r][j] * b[i] / p for each row r other than i.
func TestPivotKeepsSolutions(t *testing.T) {
	s := source(17)
	for range 300 {
		m := s.matrix(1+s.below(5), 1+s.below(5), 2)
		i, j, x := s.below(m.Rows), s.below(m.Cols), s.numbers(m.Cols)
		p := value(matrix.At(m, i, j))
		if p.Sign() == 0 {
			continue
		}
		b, codeB := matrix.Apply(m, x)
		rest, code := matrix.Pivot(m, i, j)
		got, codeGot := matrix.Apply(rest, slices.Delete(x, j, j+1))
		if codeB != api.OK || code != api.OK {
			t.Fatalf("Apply or Pivot of %v: got the errors %d and %d", m, codeB, code)
		}
		var expected []*big.Rat
		for _, r := range others(m.Rows, i) {
			change := new(big.Rat).Mul(value(matrix.At(m, r, j)), value(b[i]))
			expected = append(expected, change.Sub(value(b[r]), change.Quo(change, p)))
		}
		wantValues(t, "the system that remains", got, codeGot, expected)
	}
}

// Work depends on the elements that are not 0, not on the numbers of rows and columns.
func TestLargeThinMatrices(t *testing.T) {
	const n = api.MaxDim
	m := empty(n, n)
	order := make([]int, n)
	for i := range m.Data {
		m.Data[i] = []api.Entry{{Index: n - 1 - i, Value: frac(int64(i+1), 2)}}
		order[i] = n - 1 - i
	}
	turned, code := matrix.Select(m, others(n, -1), order)
	sum, codeSum := matrix.Add(turned, frac(1, 1), turned)
	square, codeSquare := matrix.Mul(m, m)
	if code != api.OK || codeSum != api.OK || codeSquare != api.OK {
		t.Fatalf("got the errors %d, %d and %d", code, codeSum, codeSquare)
	}
	for i, row := range sum.Data {
		if len(row) != 1 || row[0].Index != i || !equal(row[0].Value, frac(int64(i+1), 1)) {
			t.Fatalf("row %d of the sum: got %v", i, row)
		}
	}
	for i, row := range square.Data {
		if len(row) != 1 || row[0].Index != i || !equal(row[0].Value, canonical(big.NewRat(int64(i+1)*int64(n-i), 4))) {
			t.Fatalf("row %d of the square: got %v", i, row)
		}
	}
	m.Data[0] = nil
	for j := range n {
		m.Data[0] = append(m.Data[0], api.Entry{Index: j, Value: frac(1, 1)})
	}
	rest, code := matrix.Pivot(m, 0, 0)
	if code != api.OK || len(rest.Data[n-2]) != n-1 || len(rest.Data[0]) != 1 || rest.Data[0][0].Index != n-3 {
		t.Errorf("Pivot with a long row: got the error %d", code)
	}
}

func TestExamples(t *testing.T) {
	got, code := matrix.Pivot(whole([]int64{2, 1}, []int64{4, 5}), 0, 0)
	wantMatrix(t, "Pivot", got, code, of(whole([]int64{3})))
	half := api.Matrix{Rows: 2, Cols: 1, Data: [][]api.Entry{{{Value: frac(3, 1)}}, {{Value: frac(1, 2)}}}}
	got, code = matrix.Mul(whole([]int64{1, 2}), half)
	wantMatrix(t, "Mul", got, code, of(whole([]int64{4})))
	got, code = matrix.Select(whole([]int64{1, 2}, []int64{3, 4}), []int{1, 1}, []int{0})
	wantMatrix(t, "Select", got, code, of(whole([]int64{3}, []int64{3})))
}
