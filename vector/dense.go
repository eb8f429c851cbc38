package vector

import (
	"gridmarket/api"
	"gridmarket/rational"
)

// FromDense returns the vector with the given components.
func FromDense(l []api.Rat) []api.Entry {
	var out []api.Entry
	for i, value := range l {
		if rational.Sign(value) != 0 {
			out = append(out, api.Entry{Index: i, Value: rational.Norm(value)})
		}
	}
	return out
}

// Dense returns the components 0 to n-1, or false if another component is not 0 or n is out of range.
func Dense(v []api.Entry, n int) ([]api.Rat, bool) {
	v = sparse(v)
	if n < 0 || n > api.MaxDim || !isWithin(v, n) {
		return nil, false
	}
	out := make([]api.Rat, n)
	for i := range out {
		var value api.Rat
		value, v = take(v, i)
		out[i] = rational.Norm(value)
	}
	return out, true
}
