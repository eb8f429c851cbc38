package matrix

import (
	"gridmarket/api"
	"gridmarket/rational"
	"gridmarket/vector"
)

// Transpose returns the transposed matrix.
func Transpose(m api.Matrix) (api.Matrix, api.Errno) {
	if !Valid(m) {
		return api.Matrix{}, api.ErrInvalid
	}
	columns := make([][]api.Entry, m.Cols)
	for i, row := range m.Data {
		for _, e := range row {
			columns[e.Index] = append(columns[e.Index], api.Entry{Index: i, Value: rational.Norm(e.Value)})
		}
	}
	return api.Matrix{Rows: m.Cols, Cols: m.Rows, Data: columns}, api.OK
}

// Add returns a + f times b.
func Add(a api.Matrix, f api.Rat, b api.Matrix) (api.Matrix, api.Errno) {
	if !Valid(a) || !Valid(b) {
		return api.Matrix{}, api.ErrInvalid
	}
	if !isSameSize(a, b) {
		return api.Matrix{}, api.ErrShape
	}
	sum := func(i int) []api.Entry { return vector.AddScaled(a.Data[i], f, b.Data[i]) }
	return build(a.Rows, a.Cols, sum), api.OK
}

// Mul returns the product of a and b.
func Mul(a, b api.Matrix) (api.Matrix, api.Errno) {
	if !Valid(a) || !Valid(b) {
		return api.Matrix{}, api.ErrInvalid
	}
	if a.Cols != b.Rows {
		return api.Matrix{}, api.ErrShape
	}
	return build(a.Rows, b.Cols, func(i int) []api.Entry { return combine(a.Data[i], b) }), api.OK
}

// Apply returns m times the column x.
func Apply(m api.Matrix, x []api.Rat) ([]api.Rat, api.Errno) {
	if !Valid(m) {
		return nil, api.ErrInvalid
	}
	if len(x) != m.Cols {
		return nil, api.ErrShape
	}
	out := make([]api.Rat, m.Rows)
	for i, row := range m.Data {
		out[i] = multiply(row, x)
	}
	return out, api.OK
}

// ApplyT returns the row y times m.
func ApplyT(m api.Matrix, y []api.Rat) ([]api.Rat, api.Errno) {
	if !Valid(m) {
		return nil, api.ErrInvalid
	}
	if len(y) != m.Rows {
		return nil, api.ErrShape
	}
	out, _ := vector.Dense(combine(vector.FromDense(y), m), m.Cols)
	return out, api.OK
}

// combine is the sum of rows of m, each times the factor with its index.
func combine(factors []api.Entry, m api.Matrix) []api.Entry {
	sum := collection{}
	for _, f := range factors {
		for _, e := range m.Data[f.Index] {
			sum.add(e.Index, rational.Mul(f.Value, e.Value))
		}
	}
	return sum.row()
}

// multiply is the row times the column x, which has an element for each index of the row. It looks only at those elements: most rows are short.
func multiply(row []api.Entry, x []api.Rat) api.Rat {
	products := make([]api.Rat, len(row))
	for k, e := range row {
		products[k] = rational.Mul(e.Value, x[e.Index])
	}
	return rational.Sum(products)
}
