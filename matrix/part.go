package matrix

import (
	"gridmarket/api"
	"gridmarket/rational"
	"gridmarket/vector"
)

// Select returns the matrix of the given rows and columns of m, in the given order.
func Select(m api.Matrix, rows, cols []int) (api.Matrix, api.Errno) {
	if !Valid(m) {
		return api.Matrix{}, api.ErrInvalid
	}
	if !areBelow(rows, m.Rows) || !areBelow(cols, m.Cols) {
		return api.Matrix{}, api.ErrRange
	}
	if !isSize(len(rows)) || !isSize(len(cols)) {
		return api.Matrix{}, api.ErrLimit
	}
	places := make([][]int, m.Cols)
	for place, column := range cols {
		places[column] = append(places[column], place)
	}
	return build(len(rows), len(cols), func(i int) []api.Entry { return placed(m.Data[rows[i]], places) }), api.OK
}

// Pivot returns the Schur complement of element i, j.
func Pivot(m api.Matrix, i, j int) (api.Matrix, api.Errno) {
	if !Valid(m) {
		return api.Matrix{}, api.ErrInvalid
	}
	if !isBelow(i, m.Rows) || !isBelow(j, m.Cols) {
		return api.Matrix{}, api.ErrRange
	}
	inverse, ok := rational.Inv(vector.Get(m.Data[i], j))
	if !ok {
		return api.Matrix{}, api.ErrZero
	}
	step := vector.Scale(rational.Neg(inverse), without(m.Data[i], j))
	var data [][]api.Entry
	for r, row := range m.Data {
		if r != i {
			data = append(data, eliminated(row, j, step))
		}
	}
	return api.Matrix{Rows: m.Rows - 1, Cols: m.Cols - 1, Data: data}, api.OK
}

// areBelow reports whether all numbers are indices of a list with n elements.
func areBelow(indices []int, n int) bool {
	for _, i := range indices {
		if !isBelow(i, n) {
			return false
		}
	}
	return true
}

// placed is the row with each element of the given one at all the places of its column.
func placed(row []api.Entry, places [][]int) []api.Entry {
	out := collection{}
	for _, e := range row {
		for _, place := range places[e.Index] {
			out.add(place, e.Value)
		}
	}
	return out.row()
}

// eliminated is the row without column j, plus the step times its element there. Most rows have none there: then the step, which may be long, is not looked at.
func eliminated(row []api.Entry, j int, step []api.Entry) []api.Entry {
	factor := vector.Get(row, j)
	if rational.Sign(factor) == 0 {
		return vector.Norm(without(row, j))
	}
	return vector.AddScaled(without(row, j), factor, step)
}

// without is the row that remains if column j is removed. It shares the memory of the values.
func without(row []api.Entry, j int) []api.Entry {
	var out []api.Entry
	for _, e := range row {
		switch {
		case e.Index < j:
			out = append(out, e)
		case e.Index > j:
			out = append(out, api.Entry{Index: e.Index - 1, Value: e.Value})
		}
	}
	return out
}
