package matrix_test

import (
	"math"
	"math/big"
	"slices"
	"testing"

	"gridmarket/api"
)

// sizes are numbers of rows and columns at the edges of what is permitted, and far outside.
var sizes = []int{math.MinInt, -1, 0, 1, api.MaxDim - 1, api.MaxDim, api.MaxDim + 1, math.MaxInt}

func bigInt(a api.Int) *big.Int {
	v := new(big.Int)
	for _, limb := range slices.Backward(a.Mag) {
		v.Lsh(v, 32)
		v.Or(v, new(big.Int).SetUint64(uint64(limb)))
	}
	if a.Neg {
		v.Neg(v)
	}
	return v
}

// value is the value of a number as a number of the standard library.
func value(a api.Rat) *big.Rat {
	den := bigInt(api.Int{Mag: a.Den})
	if den.Sign() == 0 {
		return new(big.Rat)
	}
	return new(big.Rat).SetFrac(bigInt(a.Num), den)
}

func limbs(v *big.Int) []uint32 {
	var a []uint32
	for rest := new(big.Int).Abs(v); rest.Sign() > 0; rest.Rsh(rest, 32) {
		a = append(a, uint32(rest.Uint64()))
	}
	return a
}

// parts is the number num / den with these parts as they stand, in lowest terms or not; den is not negative.
func parts(num, den *big.Int) api.Rat {
	return api.Rat{Num: api.Int{Neg: num.Sign() < 0, Mag: limbs(num)}, Den: limbs(den)}
}

func canonical(v *big.Rat) api.Rat { return parts(v.Num(), v.Denom()) }

func frac(num, den int64) api.Rat { return parts(big.NewInt(num), big.NewInt(den)) }

// loose is another form of a number: not in lowest terms, and with zeros above both parts.
func loose(a api.Rat) api.Rat {
	factor := big.NewInt(6 << 40)
	b := parts(new(big.Int).Mul(factor, bigInt(a.Num)), new(big.Int).Mul(factor, bigInt(api.Int{Mag: a.Den})))
	return api.Rat{Num: api.Int{Neg: a.Num.Neg, Mag: append(b.Num.Mag, 0, 0)}, Den: append(b.Den, 0)}
}

// zeros are numbers with the value 0: with the numerator 0, and with a denominator that has the value 0.
func zeros() []api.Rat {
	return []api.Rat{
		{}, {Den: []uint32{1}}, {Num: api.Int{Neg: true, Mag: []uint32{0, 0}}, Den: []uint32{0, 0, 9}},
		{Num: api.Int{Mag: []uint32{7}}}, {Num: api.Int{Neg: true, Mag: []uint32{3, 1}}, Den: []uint32{0, 0}},
	}
}

func equal(a, b api.Rat) bool {
	return a.Num.Neg == b.Num.Neg && slices.Equal(a.Num.Mag, b.Num.Mag) && slices.Equal(a.Den, b.Den)
}

// wantValue reports an error if got is not the canonical number with a value.
func wantValue(t *testing.T, what string, got api.Rat, expected *big.Rat) {
	t.Helper()
	if !equal(got, canonical(expected)) {
		t.Errorf("%s: got %v, want %v", what, got, expected)
	}
}

// wantValues reports an error if got is not the list of the canonical numbers with some values.
func wantValues(t *testing.T, what string, got []api.Rat, code api.Errno, expected []*big.Rat) {
	t.Helper()
	if code != api.OK || len(got) != len(expected) {
		t.Fatalf("%s: got %d numbers and the error %d, want %d numbers", what, len(got), code, len(expected))
	}
	for i, v := range expected {
		wantValue(t, what, got[i], v)
	}
}

// wantMatrix reports an error if got is not the matrix with the expected elements in its only canonical form.
func wantMatrix(t *testing.T, what string, got api.Matrix, code api.Errno, expected grid) {
	t.Helper()
	if code != api.OK || got.Rows != expected.rows || got.Cols != expected.cols || len(got.Data) != expected.rows {
		t.Fatalf("%s: got %d rows (%d in Data), %d columns and the error %d, want %d rows and %d columns", what, got.Rows, len(got.Data), got.Cols, code, expected.rows, expected.cols)
	}
	for i, row := range got.Data {
		if want := expected.row(i); !slices.EqualFunc(row, want, func(x, y api.Entry) bool { return x.Index == y.Index && equal(x.Value, y.Value) }) {
			t.Errorf("%s: got %v in row %d, want %v", what, row, i, want)
		}
	}
}

// wantNoMatrix reports an error if a call does not return an error and the zero value.
func wantNoMatrix(t *testing.T, what string, got api.Matrix, code, expected api.Errno) {
	t.Helper()
	if code != expected || got.Rows != 0 || got.Cols != 0 || len(got.Data) > 0 {
		t.Errorf("%s: got %v and the error %d, want the error %d", what, got, code, expected)
	}
}

// wantNoList reports an error if a call does not return an error and the zero value.
func wantNoList[T any](t *testing.T, what string, got []T, code, expected api.Errno) {
	t.Helper()
	if code != expected || len(got) > 0 {
		t.Errorf("%s: got %v and the error %d, want the error %d", what, got, code, expected)
	}
}

// grid is a matrix as all of its elements.
type grid struct {
	rows, cols int
	elements   [][]*big.Rat
}

func newGrid(rows, cols int) grid {
	g := grid{rows, cols, make([][]*big.Rat, rows)}
	for i := range g.elements {
		g.elements[i] = make([]*big.Rat, cols)
		for j := range g.elements[i] {
			g.elements[i][j] = new(big.Rat)
		}
	}
	return g
}

// of contains the elements of a matrix.
func of(m api.Matrix) grid {
	g := newGrid(m.Rows, m.Cols)
	for i, row := range m.Data {
		for _, e := range row {
			g.elements[i][e.Index] = value(e.Value)
		}
	}
	return g
}

// row is the canonical list of a row.
func (g grid) row(i int) []api.Entry {
	var row []api.Entry
	for j, v := range g.elements[i] {
		if v.Sign() != 0 {
			row = append(row, api.Entry{Index: j, Value: canonical(v)})
		}
	}
	return row
}

func (g grid) transposed() grid {
	out := newGrid(g.cols, g.rows)
	for i, row := range g.elements {
		for j, v := range row {
			out.elements[j][i] = v
		}
	}
	return out
}

// plus is g + f times h.
func (g grid) plus(f *big.Rat, h grid) grid {
	out := newGrid(g.rows, g.cols)
	for i, row := range out.elements {
		for j, v := range row {
			v.Mul(f, h.elements[i][j])
			v.Add(v, g.elements[i][j])
		}
	}
	return out
}

func (g grid) times(h grid) grid {
	out := newGrid(g.rows, h.cols)
	for i, row := range out.elements {
		for j, v := range row {
			for k := range g.cols {
				v.Add(v, new(big.Rat).Mul(g.elements[i][k], h.elements[k][j]))
			}
		}
	}
	return out
}

func (g grid) selected(rows, cols []int) grid {
	out := newGrid(len(rows), len(cols))
	for i, row := range out.elements {
		for j := range row {
			row[j] = g.elements[rows[i]][cols[j]]
		}
	}
	return out
}

// pivoted is what remains of g after an elimination step with the element in row i and column j.
func (g grid) pivoted(i, j int) grid {
	out := g.selected(others(g.rows, i), others(g.cols, j))
	for a, r := range others(g.rows, i) {
		for b, c := range others(g.cols, j) {
			change := new(big.Rat).Mul(g.elements[r][j], g.elements[i][c])
			change.Quo(change, g.elements[i][j])
			out.elements[a][b] = change.Sub(g.elements[r][c], change)
		}
	}
	return out
}

// column is a list of values as a matrix with one column.
func column(l []api.Rat) grid {
	out := newGrid(len(l), 1)
	for i, a := range l {
		out.elements[i][0] = value(a)
	}
	return out
}

// list contains the elements of a matrix with one column.
func (g grid) list() []*big.Rat {
	out := make([]*big.Rat, g.rows)
	for i, row := range g.elements {
		out[i] = row[0]
	}
	return out
}

// others are the numbers from 0 to n - 1 without i.
func others(n, i int) []int {
	var out []int
	for k := range n {
		if k != i {
			out = append(out, k)
		}
	}
	return out
}

// source is a sequence of numbers that looks random and is the same in every run.
type source uint64

func (s *source) next() uint32 {
	*s = *s*6364136223846793005 + 1442695040888963407
	return uint32(*s >> 32)
}

// below returns a number below m.
func (s *source) below(m int) int { return int(s.next() % uint32(m)) }

// number returns a number of one of many forms: often a small one, so that sums cancel, or 0.
func (s *source) number() api.Rat {
	switch s.below(8) {
	case 0:
		return api.Rat{Num: api.Int{Neg: s.below(2) == 0, Mag: []uint32{s.next(), s.next(), 0}}, Den: []uint32{s.next(), s.next() % 2}}
	case 1:
		return zeros()[s.below(5)]
	case 2:
		return loose(frac(int64(s.below(5)-2), int64(1+s.below(3))))
	}
	return frac(int64(s.below(7)-3), int64(1+s.below(3)))
}

// numbers returns a list of numbers.
func (s *source) numbers(length int) []api.Rat {
	l := make([]api.Rat, length)
	for i := range l {
		l[i] = s.number()
	}
	return l
}

// matrix returns a valid matrix in which about one of thin elements is not 0, in various forms.
func (s *source) matrix(rows, cols, thin int) api.Matrix {
	m := api.Matrix{Rows: rows, Cols: cols, Data: make([][]api.Entry, rows)}
	for i := range m.Data {
		for j := range cols {
			if a := s.number(); value(a).Sign() != 0 && s.below(thin) == 0 {
				m.Data[i] = append(m.Data[i], api.Entry{Index: j, Value: a})
			}
		}
	}
	return m
}

// indices returns a list of numbers below n, which may be repeated; it is empty if n is 0.
func (s *source) indices(length, n int) []int {
	var l []int
	for range length {
		if n > 0 {
			l = append(l, s.below(n))
		}
	}
	return l
}

// disguised is the same matrix with its values in other forms.
func disguised(m api.Matrix) api.Matrix {
	out := api.Matrix{Rows: m.Rows, Cols: m.Cols, Data: make([][]api.Entry, len(m.Data))}
	for i, row := range m.Data {
		for _, e := range row {
			out.Data[i] = append(out.Data[i], api.Entry{Index: e.Index, Value: loose(e.Value)})
		}
	}
	return out
}

// whole is the matrix with rows of whole numbers.
func whole(rows ...[]int64) api.Matrix {
	m := api.Matrix{Rows: len(rows), Cols: len(rows[0])}
	for _, row := range rows {
		var entries []api.Entry
		for j, v := range row {
			if v != 0 {
				entries = append(entries, api.Entry{Index: j, Value: frac(v, 1)})
			}
		}
		m.Data = append(m.Data, entries)
	}
	return m
}

// empty is the matrix of zeros.
func empty(rows, cols int) api.Matrix {
	return api.Matrix{Rows: rows, Cols: cols, Data: make([][]api.Entry, rows)}
}

// matrices are valid matrices of many sizes, also without rows or columns, dense and thin, in canonical form and not.
func matrices() []api.Matrix {
	all := []api.Matrix{{}, {Data: [][]api.Entry{}}, empty(0, 3), empty(3, 0), empty(2, 2), whole([]int64{5}), whole([]int64{1, 2}, []int64{3, 4})}
	s := source(1)
	for rows := range 5 {
		for cols := range 5 {
			all = append(all, s.matrix(rows, cols, 1), s.matrix(rows, cols, 3))
		}
	}
	return append(all, disguised(whole([]int64{2, 0, 1}, []int64{0, -3, 0})), s.matrix(9, 12, 2), s.matrix(12, 9, 4))
}

// invalid are matrices that are not valid, by the reason.
func invalid() map[string]api.Matrix {
	one := func(index int) api.Entry { return api.Entry{Index: index, Value: frac(1, 1)} }
	row := func(entries ...api.Entry) api.Matrix {
		return api.Matrix{Rows: 2, Cols: 3, Data: [][]api.Entry{{one(0)}, entries}}
	}
	all := map[string]api.Matrix{
		"Rows is -1":                     {Rows: -1},
		"Cols is -1":                     {Cols: -1},
		"Cols is -1 beside a row":        {Rows: 1, Cols: -1, Data: make([][]api.Entry, 1)},
		"Rows and Cols are the least":    {Rows: math.MinInt, Cols: math.MinInt},
		"Rows is MaxDim + 1":             empty(api.MaxDim+1, 1),
		"Cols is MaxDim + 1":             empty(1, api.MaxDim+1),
		"Cols is MaxDim + 1 without row": {Cols: api.MaxDim + 1},
		"Cols is the greatest":           empty(1, math.MaxInt),
		"Rows is the greatest":           {Rows: math.MaxInt, Cols: 1},
		"Data is nil":                    {Rows: 1, Cols: 1},
		"Data has fewer elements":        {Rows: 3, Cols: 3, Data: make([][]api.Entry, 2)},
		"Data has more elements":         {Rows: 1, Cols: 3, Data: make([][]api.Entry, 2)},
		"Data has an element for no row": {Cols: 3, Data: make([][]api.Entry, 1)},
		"indices out of order":           row(one(2), one(1)),
		"an index is repeated":           row(one(1), one(1)),
		"an index is -1":                 row(one(-1), one(1)),
		"an index is Cols":               row(one(1), one(3)),
		"an index is the greatest":       row(one(math.MaxInt)),
		"an index without columns":       {Rows: 1, Data: [][]api.Entry{{one(0)}}},
		"the first row":                  {Rows: 2, Cols: 1, Data: [][]api.Entry{{one(1)}, {one(0)}}},
	}
	for i, zero := range zeros() {
		all["a value is 0, form "+string(rune('0'+i))] = row(one(0), api.Entry{Index: 1, Value: zero}, one(2))
	}
	return all
}
