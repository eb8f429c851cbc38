package vector

import (
	"gridmarket/api"
)

// Permute returns the vector whose component p[i] is component i of v, or false if p is not a permutation that covers v.
func Permute(v []api.Entry, p []int) ([]api.Entry, bool) {
	v = Norm(v)
	if !isPermutation(p) || !isWithin(v, len(p)) {
		return nil, false
	}
	for i := range v {
		v[i].Index = p[v[i].Index]
	}
	return sorted(v), true
}

// isPermutation reports whether p contains each of the numbers 0 to len(p)-1 once.
func isPermutation(p []int) bool {
	seen := make([]bool, len(p))
	for _, i := range p {
		if i < 0 || i >= len(p) || seen[i] {
			return false
		}
		seen[i] = true
	}
	return true
}
