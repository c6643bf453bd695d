package smallest

import mathbits "math/bits"

// bits is a set of numbers below 1024.
type bits [16]uint64

func bitsOf(l []int) (b bits) {
	for _, n := range l {
		b[n/64] |= 1 << (n % 64)
	}
	return b
}

func (b bits) has(n int) bool { return b[n/64]>>(n%64)&1 == 1 }

func (b bits) without(n int) bits {
	b[n/64] &^= 1 << (n % 64)
	return b
}

func (b bits) within(c bits) bool {
	for i := range b {
		if b[i]&^c[i] != 0 {
			return false
		}
	}
	return true
}

func (b bits) list() (l []int) {
	for i, word := range b {
		for word != 0 {
			l = append(l, 64*i+mathbits.TrailingZeros64(word))
			word &= word - 1
		}
	}
	return l
}
