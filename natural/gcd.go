package natural

// Lehmer's method: the first quotients of Euclid's algorithm depend on the leading bits only. A run of them is found in 64-bit arithmetic and then applied to the long numbers at once.

// leadBits is the number of leading bits from which quotients are found: an even number, so small that factors of half as many bits times limbs, and their sums, are below 2^63.
const leadBits = 60

// step is a run of Euclid's algorithm: it takes x, y to a x + b y, c x + d y.
type step struct {
	a, b, c, d int64
}

// GCD returns the greatest common divisor.
func GCD(a, b []uint32) []uint32 {
	x, y := workingPair(a, b)
	for len(x) > 2 && len(significant(y)) > 0 {
		s := findStep(x, y)
		if s.b == 0 {
			x, y = euclid(x, y)
		} else {
			s.apply(x, y)
		}
		// x is the greater one, so that the limbs above it are 0 in y too.
		x = significant(x)
		y = y[:len(x)]
	}
	if len(x) > 2 {
		return x
	}
	return FromUint64(gcdOfWords(window(x, 0), window(y, 0)))
}

// workingPair copies the numbers into lists of equal length, the greater one first and canonical.
func workingPair(a, b []uint32) (x, y []uint32) {
	if Compare(a, b) < 0 {
		a, b = b, a
	}
	x = Trim(a)
	y = make([]uint32, len(x))
	copy(y, significant(b))
	return x, y
}

// euclid does one step of Euclid's algorithm with numbers of any size, in the memory of x and y; y is not 0.
func euclid(x, y []uint32) (newX, newY []uint32) {
	_, rest, _ := DivMod(x, y)
	clear(x)
	copy(x, rest)
	return y, x
}

// findStep finds a run of quotients from the leading bits of x and y, where x has more than 64 bits and is at least y. Its b is 0 if no quotient is certain.
func findStep(x, y []uint32) step {
	below := Bits(x) - leadBits
	u, v := int64(window(x, below)), int64(window(y, below))
	s := step{1, 0, 0, 1}
	// Of the true numbers, the greater one is always between u + a and u + b, and the smaller one between v + c and v + d (in units of 2^below). If both ends have the same quotient, it is the true one (Knuth, volume 2, algorithm L).
	// Then the remainders of both ends are below their divisors, so that the new factors c and d are below v; their products with v are at most the first u, which is below 2^60. So all factors stay below 2^30.
	for v+s.c != 0 && v+s.d != 0 {
		q := (u + s.a) / (v + s.c)
		if q != (u+s.b)/(v+s.d) {
			break
		}
		s = step{s.c, s.d, s.a - q*s.c, s.b - q*s.d}
		u, v = v, u-q*v
	}
	return s
}

// apply replaces x and y, which have equal lengths, by the numbers after the step; neither is negative.
func (s step) apply(x, y []uint32) {
	carryX, carryY := int64(0), int64(0)
	for i := range x {
		p, q := int64(x[i]), int64(y[i])
		// The factors are below 2^30 and the limbs below 2^32, so that nothing overflows. A carry may be negative; its shift rounds down.
		carryX += s.a*p + s.b*q
		carryY += s.c*p + s.d*q
		x[i], y[i] = uint32(carryX), uint32(carryY)
		carryX >>= limbBits
		carryY >>= limbBits
	}
}

// gcdOfWords is Euclid's algorithm.
func gcdOfWords(u, v uint64) uint64 {
	for v != 0 {
		u, v = v, u%v
	}
	return u
}
