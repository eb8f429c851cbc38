package matrix_test

import (
	"math"
	"math/big"
	"testing"

	"gridmarket/api"
	"gridmarket/matrix"
)

// P7.1

func TestValid(t *testing.T) {
	for _, m := range matrices() {
		if !matrix.Valid(m) || !matrix.Valid(disguised(m)) {
			t.Errorf("Valid(%v): got false", m)
		}
	}
	for name, m := range invalid() {
		if matrix.Valid(m) {
			t.Errorf("Valid where %s: got true", name)
		}
	}
}

func TestValidAtTheEdges(t *testing.T) {
	for _, rows := range sizes {
		for _, cols := range sizes {
			m := api.Matrix{Rows: rows, Cols: cols}
			if rows > 0 && rows <= api.MaxDim+1 {
				m.Data = make([][]api.Entry, rows)
			}
			valid := 0 <= rows && rows <= api.MaxDim && 0 <= cols && cols <= api.MaxDim
			if got := matrix.Valid(m); got != valid {
				t.Errorf("Valid of %d rows and %d columns: got %v", rows, cols, got)
			}
		}
	}
	corner := empty(api.MaxDim, api.MaxDim)
	corner.Data[api.MaxDim-1] = []api.Entry{{Index: 0, Value: frac(1, 1)}, {Index: api.MaxDim - 1, Value: frac(4, 2)}}
	if !matrix.Valid(corner) {
		t.Errorf("Valid of a matrix with an element in the last corner: got false")
	}
	corner.Data[api.MaxDim-1][1].Index = api.MaxDim
	if matrix.Valid(corner) {
		t.Errorf("Valid of a matrix with an element behind the last column: got true")
	}
}

// dense is a matrix as a list of lists of numbers.
func dense(s *source, rows, cols int) (lists [][]api.Rat, elements grid) {
	elements = newGrid(rows, cols)
	for i := range rows {
		lists = append(lists, s.numbers(cols))
		for j, a := range lists[i] {
			elements.elements[i][j] = value(a)
		}
	}
	return lists, elements
}

func TestFromDense(t *testing.T) {
	s := source(3)
	for rows := range 7 {
		for cols := range 7 {
			lists, expected := dense(&s, rows, cols)
			got, code := matrix.FromDense(lists, cols)
			wantMatrix(t, "FromDense", got, code, expected)
		}
	}
	got, code := matrix.FromDense([][]api.Rat{zeros(), zeros()}, len(zeros()))
	wantMatrix(t, "FromDense of zeros", got, code, newGrid(2, len(zeros())))
}

func TestFromDenseAtTheEdges(t *testing.T) {
	for _, none := range [][][]api.Rat{nil, {}} {
		for _, cols := range sizes {
			got, code := matrix.FromDense(none, cols)
			if cols < 0 || cols > api.MaxDim {
				wantNoMatrix(t, "FromDense of no rows", got, code, api.ErrRange)
			} else {
				wantMatrix(t, "FromDense of no rows", got, code, newGrid(0, cols))
			}
		}
	}
	got, code := matrix.FromDense(make([][]api.Rat, api.MaxDim), 0)
	wantMatrix(t, "FromDense of MaxDim empty rows", got, code, newGrid(api.MaxDim, 0))
	got, code = matrix.FromDense(make([][]api.Rat, api.MaxDim+1), 0)
	wantNoMatrix(t, "FromDense of more than MaxDim rows", got, code, api.ErrRange)
	got, code = matrix.FromDense([][]api.Rat{make([]api.Rat, api.MaxDim)}, api.MaxDim)
	wantMatrix(t, "FromDense of a row with MaxDim elements", got, code, newGrid(1, api.MaxDim))
	got, code = matrix.FromDense([][]api.Rat{make([]api.Rat, api.MaxDim+1)}, api.MaxDim+1)
	wantNoMatrix(t, "FromDense of a row with more than MaxDim elements", got, code, api.ErrRange)
}

func TestFromDenseOfOtherShapes(t *testing.T) {
	one := frac(1, 1)
	for _, rows := range [][][]api.Rat{{{one}}, {{one, one, one}}, {nil}, {{one, one}, {one}}, {{one}, {one, one}}, {{one, one}, {one, one, one}, {one, one}}} {
		got, code := matrix.FromDense(rows, 2)
		wantNoMatrix(t, "FromDense of rows with other lengths", got, code, api.ErrShape)
		got, code = matrix.FromDense(rows, -1)
		wantNoMatrix(t, "FromDense of rows with other lengths, cols is -1", got, code, api.ErrRange)
		got, code = matrix.FromDense(rows, api.MaxDim+1)
		wantNoMatrix(t, "FromDense of rows with other lengths, cols is MaxDim + 1", got, code, api.ErrRange)
	}
	got, code := matrix.FromDense([][]api.Rat{{one}}, 0)
	wantNoMatrix(t, "FromDense of a row with an element, cols is 0", got, code, api.ErrShape)
	got, code = matrix.FromDense(make([][]api.Rat, api.MaxDim+1), 1)
	wantNoMatrix(t, "FromDense of more than MaxDim rows with other lengths", got, code, api.ErrRange)
}

func TestDense(t *testing.T) {
	for _, m := range matrices() {
		got, code := matrix.Dense(m)
		if code != api.OK || len(got) != m.Rows {
			t.Fatalf("Dense(%v): got %d rows and the error %d", m, len(got), code)
		}
		for i, row := range of(m).elements {
			wantValues(t, "Dense", got[i], code, row)
		}
		back, code := matrix.FromDense(got, m.Cols)
		wantMatrix(t, "FromDense of Dense", back, code, of(m))
	}
	for name, m := range invalid() {
		got, code := matrix.Dense(m)
		wantNoList(t, "Dense where "+name, got, code, api.ErrInvalid)
	}
}

func TestDenseAtTheEdges(t *testing.T) {
	for _, size := range [][2]int{{0, 0}, {0, 1}, {1, 0}, {0, api.MaxDim}, {api.MaxDim, 0}, {1, api.MaxDim}, {api.MaxDim, 1}} {
		got, code := matrix.Dense(empty(size[0], size[1]))
		if code != api.OK || len(got) != size[0] {
			t.Fatalf("Dense of %v zeros: got %d rows and the error %d", size, len(got), code)
		}
		for _, row := range got {
			wantValues(t, "Dense of zeros", row, code, newGrid(size[1], 1).list())
		}
	}
}

func TestIdentity(t *testing.T) {
	for _, n := range append(sizes, 2, 3, 10) {
		got, code := matrix.Identity(n)
		if n < 0 || n > api.MaxDim {
			wantNoMatrix(t, "Identity", got, code, api.ErrRange)
			continue
		}
		if code != api.OK || got.Rows != n || got.Cols != n || len(got.Data) != n {
			t.Fatalf("Identity(%d): got %d rows (%d in Data), %d columns and the error %d", n, got.Rows, len(got.Data), got.Cols, code)
		}
		for i, row := range got.Data {
			if len(row) != 1 || row[0].Index != i || !equal(row[0].Value, frac(1, 1)) {
				t.Fatalf("Identity(%d): got %v in row %d", n, row, i)
			}
		}
	}
}

func TestAt(t *testing.T) {
	outside := []int{math.MinInt, -2, -1, math.MaxInt, api.MaxDim}
	for _, m := range matrices() {
		for i, row := range of(m).elements {
			for j, v := range row {
				wantValue(t, "At", matrix.At(m, i, j), v)
			}
			for _, j := range append(outside, m.Cols) {
				wantValue(t, "At behind the columns", matrix.At(m, i, j), new(big.Rat))
			}
		}
		for _, i := range append(outside, m.Rows) {
			for _, j := range append(outside, 0, m.Cols-1, m.Cols) {
				wantValue(t, "At behind the rows", matrix.At(m, i, j), new(big.Rat))
			}
		}
	}
	for name, m := range invalid() {
		for i := -1; i <= len(m.Data) && i < 5; i++ {
			for j := range 6 {
				wantValue(t, "At where "+name, matrix.At(m, i, j-1), new(big.Rat))
			}
		}
	}
}

// isEqual says what Equal reports of valid matrices, in the words of the chapter.
func isEqual(a, b grid) bool {
	if a.rows != b.rows || a.cols != b.cols {
		return false
	}
	for i, row := range a.elements {
		for j, v := range row {
			if v.Cmp(b.elements[i][j]) != 0 {
				return false
			}
		}
	}
	return true
}

func TestEqual(t *testing.T) {
	for _, a := range matrices() {
		for _, b := range matrices() {
			if got := matrix.Equal(a, b); got != isEqual(of(a), of(b)) {
				t.Errorf("Equal(%v, %v): got %v", a, b, got)
			}
		}
		if b := disguised(a); !matrix.Equal(a, b) || !matrix.Equal(b, a) {
			t.Errorf("Equal(%v, %v): got false", a, b)
		}
	}
}

func TestEqualOfOthers(t *testing.T) {
	a := whole([]int64{1, 0, 2}, []int64{0, 3, 0})
	for _, b := range []api.Matrix{
		whole([]int64{1, 0, 2}), whole([]int64{1, 0, 2}, []int64{0, 3, 0}, []int64{0, 0, 0}), {Rows: 2, Cols: 4, Data: a.Data},
		whole([]int64{1, 0, 2}, []int64{0, 3, 1}), whole([]int64{1, 0, 2}, []int64{0, 0, 0}), whole([]int64{1, 0, 2}, []int64{3, 0, 0}), whole([]int64{0, 3, 0}, []int64{1, 0, 2}),
	} {
		if matrix.Equal(a, b) || matrix.Equal(b, a) {
			t.Errorf("Equal(%v, %v): got true", a, b)
		}
	}
	if matrix.Equal(empty(0, 1), empty(0, 2)) || matrix.Equal(empty(1, 0), empty(2, 0)) || !matrix.Equal(api.Matrix{}, api.Matrix{Data: [][]api.Entry{}}) {
		t.Errorf("Equal of matrices without elements: got the opposite")
	}
	// These are the elements that the matrices with a value of 0 would have.
	elements := whole([]int64{1, 0, 0}, []int64{1, 0, 1})
	for name, m := range invalid() {
		for _, other := range []api.Matrix{m, a, elements} {
			if matrix.Equal(m, other) || matrix.Equal(other, m) {
				t.Errorf("Equal where %s: got true", name)
			}
		}
	}
}
