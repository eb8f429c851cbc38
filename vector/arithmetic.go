package vector

import (
	"gridmarket/api"
	"gridmarket/rational"
)

// Add returns a + b.
func Add(a, b []api.Entry) []api.Entry {
	return merge(a, b, rational.Add)
}

// Scale returns f times v.
func Scale(f api.Rat, v []api.Entry) []api.Entry {
	if rational.Sign(f) == 0 {
		return nil
	}
	return apply(v, func(x api.Rat) api.Rat { return rational.Mul(f, x) })
}

// AddScaled returns a + f times b.
func AddScaled(a []api.Entry, f api.Rat, b []api.Entry) []api.Entry {
	return merge(a, b, func(x, y api.Rat) api.Rat { return rational.Add(x, product(f, y)) })
}

// Dot returns the scalar product.
func Dot(a, b []api.Entry) api.Rat {
	var products []api.Rat
	for _, e := range merge(a, b, product) {
		products = append(products, e.Value)
	}
	return rational.Sum(products)
}

// product is x times y. Lists with few indices in common are multiplied by many zeros, which need no arithmetic.
func product(x, y api.Rat) api.Rat {
	if rational.Sign(x) == 0 || rational.Sign(y) == 0 {
		return api.Rat{}
	}
	return rational.Mul(x, y)
}

// apply is the vector of the values that the operation returns for the components of v that are not 0. The operation returns a new, canonical number that is not 0.
func apply(v []api.Entry, operation func(x api.Rat) api.Rat) []api.Entry {
	v = sparse(v)
	out := make([]api.Entry, len(v))
	copy(out, v)
	for i := range out {
		out[i].Value = operation(out[i].Value)
	}
	return out
}

// merge is the vector of the values that the operation returns for the components of a and b with the same index. The operation returns a new, canonical number, or 0 in any form; that of two zeros is 0.
func merge(a, b []api.Entry, operation func(x, y api.Rat) api.Rat) []api.Entry {
	a, b = sparse(a), sparse(b)
	var out []api.Entry
	for len(a) > 0 || len(b) > 0 {
		var x, y api.Rat
		index := least(a, b)
		x, a = take(a, index)
		y, b = take(b, index)
		if value := operation(x, y); rational.Sign(value) != 0 {
			out = append(out, api.Entry{Index: index, Value: value})
		}
	}
	return out
}

// least is the least index of two lists with ascending indices, which are not both empty.
func least(a, b []api.Entry) int {
	if len(b) == 0 || len(a) > 0 && a[0].Index <= b[0].Index {
		return a[0].Index
	}
	return b[0].Index
}

// take is the component with an index that is at most that of the first entry, and the entries behind it.
func take(v []api.Entry, index int) (component api.Rat, rest []api.Entry) {
	if len(v) == 0 || v[0].Index != index {
		return api.Rat{}, v
	}
	return v[0].Value, v[1:]
}
