package natural

import (
	"math/bits"

	"gridmarket/api"
)

// Bits returns the number of binary digits of a; it is 0 for 0.
func Bits(a []uint32) int {
	a = significant(a)
	if len(a) == 0 {
		return 0
	}
	return (len(a)-1)*limbBits + bits.Len32(a[len(a)-1])
}

// ShiftLeft returns a times 2^n, or false if n is not permitted.
func ShiftLeft(a []uint32, n int) ([]uint32, bool) {
	if n < 0 || n > api.MaxShift {
		return nil, false
	}
	a = significant(a)
	whole := n / limbBits
	shifted := make([]uint32, whole+len(a)+1)
	shifted[whole+len(a)] = shiftUp(shifted[whole:], a, n%limbBits)
	return significant(shifted), true
}

// ShiftRight returns a divided by 2^n, rounded down, or false if n is negative.
func ShiftRight(a []uint32, n int) ([]uint32, bool) {
	if n < 0 {
		return nil, false
	}
	a = significant(a)
	whole := n / limbBits
	if whole >= len(a) {
		return nil, true
	}
	shifted := make([]uint32, len(a)-whole)
	shiftDown(shifted, a[whole:], n%limbBits)
	return significant(shifted), true
}

// shiftUp sets to, which is at least as long as from, to from times 2^n for n below 32, and returns the bits that leave the highest limb of from.
func shiftUp(to, from []uint32, n int) uint32 {
	carry := uint32(0)
	for i, limb := range from {
		wide := uint64(limb) << n
		to[i] = uint32(wide) | carry
		carry = uint32(wide >> limbBits)
	}
	return carry
}

// shiftDown sets to, which has the length of from, to from divided by 2^n for n below 32.
func shiftDown(to, from []uint32, n int) {
	for i := range to {
		to[i] = uint32((uint64(from[i]) | limbAt(from, i+1)<<limbBits) >> n)
	}
}
