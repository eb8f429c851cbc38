package memory

import (
	"testing"

	"gridmarket/api"
	"gridmarket/matrix"
)

// matrices are valid matrices, canonical or not, with short and long elements, and some that are not valid.
func matrices() []api.Matrix {
	var values []api.Rat
	for _, a := range rationals() {
		if matrix.Valid(api.Matrix{Rows: 1, Cols: 1, Data: [][]api.Entry{{{Value: a}}}}) {
			values = append(values, a)
		}
	}
	square := func(first int) api.Matrix {
		m := api.Matrix{Rows: 3, Cols: 3}
		for i := range 3 {
			m.Data = append(m.Data, []api.Entry{{Index: 0, Value: values[(first+i)%len(values)]}, {Index: 2 - i%2, Value: values[(first+5*i+3)%len(values)]}})
		}
		return m
	}
	all := []api.Matrix{
		{}, {Data: [][]api.Entry{}}, {Rows: 2, Data: make([][]api.Entry, 2)}, {Cols: 2}, {Rows: -1}, {Rows: 1, Cols: 1},
		{Rows: 1, Cols: 3, Data: [][]api.Entry{vectors()[4]}}, {Rows: 3, Cols: 3, Data: [][]api.Entry{nil, {}, {{Index: 1, Value: values[0]}}}},
		{Rows: 3, Cols: 2, Data: [][]api.Entry{{{Index: 0, Value: values[1]}, {Index: 1, Value: values[9]}}, {}, {{Index: 1, Value: values[2]}}}},
		{Rows: 1, Cols: 3, Data: [][]api.Entry{{{Index: 0, Value: values[4]}, {Index: 2, Value: values[7]}}}},
	}
	for first := 0; first < len(values); first += 4 {
		all = append(all, square(first))
	}
	return all
}

func TestMatrix(t *testing.T) {
	all := rationals()
	for _, m := range matrices() {
		check(t, "Valid", matrix.Valid, m)
		check(t, "Dense", matrix.Dense, m)
		check(t, "Transpose", matrix.Transpose, m)
		for i := range 4 {
			for j := range 4 {
				check(t, "At", matrix.At, m, i-1, j)
				check(t, "Pivot", matrix.Pivot, m, i, j-1)
			}
			for first := range 9 {
				check(t, "Apply", matrix.Apply, m, all[5*first:5*first+i])
				check(t, "ApplyT", matrix.ApplyT, m, all[5*first:5*first+i])
			}
		}
		for _, rows := range [][]int{nil, {0}, {2, 0, 0, 1}, {0, 0}} {
			for _, cols := range [][]int{nil, {0}, {1, 1, 0, 1}, {2, 0}, {0, 1, 2}, {3}} {
				check(t, "Select", matrix.Select, m, rows, cols)
			}
		}
	}
}

func TestMatrixFromNumbers(t *testing.T) {
	all := rationals()
	for _, n := range []int{-1, 0, 1, 4} {
		check(t, "Identity", matrix.Identity, n)
		check(t, "FromDense", matrix.FromDense, [][]api.Rat{}, n)
		check(t, "FromDense", matrix.FromDense, [][]api.Rat{all[:4], all[12:16], all[30:34]}, n)
		check(t, "FromDense", matrix.FromDense, [][]api.Rat{{}, nil}, n)
	}
}

func TestMatrixPairs(t *testing.T) {
	for _, a := range matrices() {
		for _, b := range matrices() {
			check(t, "Equal", matrix.Equal, a, b)
			check(t, "Mul", matrix.Mul, a, b)
			for _, f := range rationals()[10:24] {
				check(t, "Add", matrix.Add, a, f, b)
			}
		}
	}
}
