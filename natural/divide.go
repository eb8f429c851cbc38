package natural

import "math/bits"

// DivMod returns the quotient and the remainder, or false if b is 0.
func DivMod(a, b []uint32) (q, r []uint32, ok bool) {
	a, b = significant(a), significant(b)
	switch {
	case len(b) == 0:
		return nil, nil, false
	case len(a) < len(b):
		return nil, Trim(a), true
	case len(a) <= 2:
		x, y := window(a, 0), window(b, 0)
		return FromUint64(x / y), FromUint64(x % y), true
	case len(b) == 1:
		q, r = divideByLimb(a, b[0])
	default:
		q, r = divideLong(a, b)
	}
	return significant(q), significant(r), true
}

// divideByLimb divides by a limb that is not 0.
func divideByLimb(a []uint32, limb uint32) (q, r []uint32) {
	q = make([]uint32, len(a))
	rest := uint64(0)
	for i := range len(a) {
		at := len(a) - 1 - i
		rest = rest<<limbBits | uint64(a[at])
		q[at] = uint32(rest / uint64(limb))
		rest %= uint64(limb)
	}
	return q, []uint32{uint32(rest)}
}

// divideLong divides by a canonical b of at least two limbs; a has at least as many. It is long division (Knuth, volume 2, algorithm D).
func divideLong(a, b []uint32) (q, r []uint32) {
	// Estimates of digits are good only if the divisor's highest bit is set.
	shift := bits.LeadingZeros32(b[len(b)-1])
	divisor := make([]uint32, len(b))
	shiftUp(divisor, b, shift)
	rest := make([]uint32, len(a)+1)
	rest[len(a)] = shiftUp(rest, a, shift)
	digits := len(a) - len(b) + 1
	q = make([]uint32, digits)
	for i := range digits {
		at := digits - 1 - i
		q[at] = nextDigit(rest[at:at+len(b)+1], divisor)
	}
	r = make([]uint32, len(b))
	shiftDown(r, rest[:len(b)], shift)
	return q, r
}

// nextDigit divides rest, which is less than 2^32 times the divisor and has one limb more, and leaves the remainder in the limbs below the highest one, which is not used again.
func nextDigit(rest, divisor []uint32) uint32 {
	digit := estimateDigit(rest, divisor)
	below, top := rest[:len(divisor)], rest[len(divisor)]
	if uint64(top) < subtractProduct(below, divisor, digit) {
		addBack(below, divisor)
		digit--
	}
	return digit
}

// estimateDigit returns the digit or, rarely, the digit plus 1. It looks at the highest three limbs of rest and two of the divisor.
func estimateDigit(rest, divisor []uint32) uint32 {
	n := len(divisor)
	high, next := uint64(divisor[n-1]), uint64(divisor[n-2])
	top := uint64(rest[n])<<limbBits | uint64(rest[n-1])
	digit, left := top/high, top%high
	for digit>>limbBits != 0 || digit*next > left<<limbBits|uint64(rest[n-2]) {
		digit--
		left += high
		if left>>limbBits != 0 {
			break
		}
	}
	return uint32(digit)
}

// subtractProduct subtracts digit times the divisor from rest, which has its length, and returns what is left to subtract from the limb above.
func subtractProduct(rest, divisor []uint32, digit uint32) uint64 {
	carry := uint64(0)
	for i, limb := range divisor {
		carry += uint64(digit) * uint64(limb)
		low := uint32(carry)
		carry >>= limbBits
		if rest[i] < low {
			carry++
		}
		rest[i] -= low
	}
	return carry
}

// addBack adds the divisor to rest, which has its length, without the carry: it only cancels what was left of the subtraction.
func addBack(rest, divisor []uint32) {
	carry := uint64(0)
	for i, limb := range divisor {
		carry += uint64(rest[i]) + uint64(limb)
		rest[i] = uint32(carry)
		carry >>= limbBits
	}
}
