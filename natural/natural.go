// Package natural is layer 1: natural numbers as lists of limbs. See shared/doc/01-natural.md.
package natural

// limbBits is the number of bits of a limb.
const limbBits = 32

// Trim returns the canonical list of a, newly allocated.
func Trim(a []uint32) []uint32 {
	a = significant(a)
	trimmed := make([]uint32, len(a))
	copy(trimmed, a)
	return trimmed
}

// FromUint64 returns the natural number v.
func FromUint64(v uint64) []uint32 {
	return significant([]uint32{uint32(v), uint32(v >> limbBits)})
}

// Uint64 returns the value of a, or false if it is not less than 2^64.
func Uint64(a []uint32) (uint64, bool) {
	a = significant(a)
	if len(a) > 2 {
		return 0, false
	}
	return window(a, 0), true
}

// Compare returns -1, 0 or 1 if the value of a is less than, equal to or greater than that of b.
func Compare(a, b []uint32) int {
	a, b = significant(a), significant(b)
	if len(a) != len(b) {
		return order(len(a) < len(b))
	}
	for i := len(a) - 1; i >= 0; i-- {
		if a[i] != b[i] {
			return order(a[i] < b[i])
		}
	}
	return 0
}

// order is the result of comparing two different numbers.
func order(less bool) int {
	if less {
		return -1
	}
	return 1
}

// significant returns the part of a below its zeros at the end. It shares the memory of a: an argument must be copied before it is returned.
func significant(a []uint32) []uint32 {
	n := len(a)
	for n > 0 && a[n-1] == 0 {
		n--
	}
	return a[:n]
}

// window returns the 64 bits of a that begin at bit n, which is not negative. Bits beyond the end of a are 0.
func window(a []uint32, n int) uint64 {
	first, within := n/limbBits, n%limbBits
	low := limbAt(a, first) | limbAt(a, first+1)<<limbBits
	// For within = 0, the shift by 64 drops the third limb.
	return low>>within | limbAt(a, first+2)<<(2*limbBits-within)
}

// limbAt returns a limb of a, or 0 beyond its end.
func limbAt(a []uint32, i int) uint64 {
	if i < len(a) {
		return uint64(a[i])
	}
	return 0
}
