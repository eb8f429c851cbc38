package matrix

import (
	"maps"
	"slices"

	"gridmarket/api"
	"gridmarket/rational"
)

// collection contains the elements of a row by their columns, each as the numbers whose sum it is: a long sum is cheaper if its numbers are added up together than one after the other.
type collection map[int][]api.Rat

// add adds a number to the element in a column.
func (c collection) add(column int, value api.Rat) {
	c[column] = append(c[column], value)
}

// row is the canonical list of the elements, in new memory.
func (c collection) row() []api.Entry {
	var out []api.Entry
	for _, column := range slices.Sorted(maps.Keys(c)) {
		if element := rational.Sum(c[column]); rational.Sign(element) != 0 {
			out = append(out, api.Entry{Index: column, Value: element})
		}
	}
	return out
}
