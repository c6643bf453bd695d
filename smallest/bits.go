package smallest

import "math/bits"

// Bits is a set of numbers below 1024.
type Bits [16]uint64

// BitsOf returns the set of some numbers.
func BitsOf(l []int) (b Bits) {
	for _, n := range l {
		b[n/64] |= 1 << (n % 64)
	}
	return b
}

// Without returns the set without a number.
func (b Bits) Without(n int) Bits {
	b[n/64] &^= 1 << (n % 64)
	return b
}

// With returns the union of two sets.
func (b Bits) With(c Bits) Bits {
	for i := range b {
		b[i] |= c[i]
	}
	return b
}

// Within reports whether all elements are in another set.
func (b Bits) Within(c Bits) bool {
	for i := range b {
		if b[i]&^c[i] != 0 {
			return false
		}
	}
	return true
}

// List returns the elements, in increasing order.
func (b Bits) List() (l []int) {
	for i, word := range b {
		for word != 0 {
			l = append(l, 64*i+bits.TrailingZeros64(word))
			word &= word - 1
		}
	}
	return l
}
