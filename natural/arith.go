package natural

// Add returns the sum.
func Add(a, b []uint32) []uint32 {
	a, b = significant(a), significant(b)
	if len(a) < len(b) {
		a, b = b, a
	}
	sum := make([]uint32, len(a)+1)
	carry := uint64(0)
	for i, limb := range a {
		carry += uint64(limb) + limbAt(b, i)
		sum[i] = uint32(carry)
		carry >>= limbBits
	}
	sum[len(a)] = uint32(carry)
	return significant(sum)
}

// Sub returns the difference, or false if a is less than b.
func Sub(a, b []uint32) ([]uint32, bool) {
	if Compare(a, b) < 0 {
		return nil, false
	}
	a, b = significant(a), significant(b)
	difference := make([]uint32, len(a))
	borrow := uint64(0)
	for i, limb := range a {
		// Modulo 2^64, the upper half is not 0 exactly if the limb was too small.
		d := uint64(limb) - limbAt(b, i) - borrow
		difference[i] = uint32(d)
		borrow = d >> 63
	}
	return significant(difference), true
}

// Mul returns the product.
func Mul(a, b []uint32) []uint32 {
	a, b = significant(a), significant(b)
	product := make([]uint32, len(a)+len(b))
	for i, limb := range a {
		product[i+len(b)] = addProduct(product[i:i+len(b)], b, limb)
	}
	return significant(product)
}

// addProduct adds b times limb to sum, which has the length of b, and returns the carry.
func addProduct(sum, b []uint32, limb uint32) uint32 {
	carry := uint64(0)
	for j := range sum {
		// The greatest value is (2^32 - 1)^2 + 2 (2^32 - 1) = 2^64 - 1.
		carry += uint64(limb)*uint64(b[j]) + uint64(sum[j])
		sum[j] = uint32(carry)
		carry >>= limbBits
	}
	return uint32(carry)
}
