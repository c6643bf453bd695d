package digest

import (
	"math/bits"

	"veilstone/api"
)

const (
	blockSize  = 64
	lengthSize = 8
)

// constants are the first bits of the fractional parts of the cube roots of the first 64 primes.
var constants = [64]uint32{
	0x428a2f98, 0x71374491, 0xb5c0fbcf, 0xe9b5dba5, 0x3956c25b, 0x59f111f1, 0x923f82a4, 0xab1c5ed5,
	0xd807aa98, 0x12835b01, 0x243185be, 0x550c7dc3, 0x72be5d74, 0x80deb1fe, 0x9bdc06a7, 0xc19bf174,
	0xe49b69c1, 0xefbe4786, 0x0fc19dc6, 0x240ca1cc, 0x2de92c6f, 0x4a7484aa, 0x5cb0a9dc, 0x76f988da,
	0x983e5152, 0xa831c66d, 0xb00327c8, 0xbf597fc7, 0xc6e00bf3, 0xd5a79147, 0x06ca6351, 0x14292967,
	0x27b70a85, 0x2e1b2138, 0x4d2c6dfc, 0x53380d13, 0x650a7354, 0x766a0abb, 0x81c2c92e, 0x92722c85,
	0xa2bfe8a1, 0xa81a664b, 0xc24b8b70, 0xc76c51a3, 0xd192e819, 0xd6990624, 0xf40e3585, 0x106aa070,
	0x19a4c116, 0x1e376c08, 0x2748774c, 0x34b0bcb5, 0x391c0cb3, 0x4ed8aa4a, 0x5b9cca4f, 0x682e6ff3,
	0x748f82ee, 0x78a5636f, 0x84c87814, 0x8cc70208, 0x90befffa, 0xa4506ceb, 0xbef9a3f7, 0xc67178f2,
}

// initial is the state at the beginning.
var initial = [8]uint32{0x6a09e667, 0xbb67ae85, 0x3c6ef372, 0xa54ff53a, 0x510e527f, 0x9b05688c, 0x1f83d9ab, 0x5be0cd19}

// Sum returns the SHA-256 hash of bytes.
func Sum(b []byte) (d api.Digest) {
	state := initial
	whole := len(b) - len(b)%blockSize
	for at := 0; at < whole; at += blockSize {
		state = compress(state, b[at:at+blockSize])
	}
	rest := padding(b[whole:], len(b))
	for at := 0; at < len(rest); at += blockSize {
		state = compress(state, rest[at:at+blockSize])
	}
	for i, x := range state {
		putWord(d[4*i:], x)
	}
	return d
}

// padding returns the last incomplete block of a message with a number of bytes, and what is added to it.
func padding(rest []byte, length int) (b []byte) {
	b = append(b, rest...)
	b = append(b, 128)
	for len(b)%blockSize != blockSize-lengthSize {
		b = append(b, 0)
	}
	for shift := 56; shift >= 0; shift -= 8 {
		b = append(b, byte(uint64(length)*8>>shift))
	}
	return b
}

func word(b []byte) uint32 {
	return uint32(b[0])<<24 | uint32(b[1])<<16 | uint32(b[2])<<8 | uint32(b[3])
}

func putWord(b []byte, x uint32) {
	b[0], b[1], b[2], b[3] = byte(x>>24), byte(x>>16), byte(x>>8), byte(x)
}

func rotate(x uint32, n int) uint32 { return bits.RotateLeft32(x, -n) }

// schedule returns the words of a block.
func schedule(block []byte) (w [64]uint32) {
	for i := range 16 {
		w[i] = word(block[4*i:])
	}
	for i := 16; i < len(w); i++ {
		x, y := w[i-15], w[i-2]
		w[i] = w[i-16] + (rotate(x, 7) ^ rotate(x, 18) ^ x>>3) + w[i-7] + (rotate(y, 17) ^ rotate(y, 19) ^ y>>10)
	}
	return w
}

// compress returns the state after a block.
func compress(state [8]uint32, block []byte) [8]uint32 {
	w := schedule(block)
	s := state
	for i := range w {
		a, b, c, d, e, f, g, h := s[0], s[1], s[2], s[3], s[4], s[5], s[6], s[7]
		t1 := h + (rotate(e, 6) ^ rotate(e, 11) ^ rotate(e, 25)) + (e&f ^ ^e&g) + constants[i] + w[i]
		t2 := (rotate(a, 2) ^ rotate(a, 13) ^ rotate(a, 22)) + (a&b ^ a&c ^ b&c)
		s = [8]uint32{t1 + t2, a, b, c, d + t1, e, f, g}
	}
	for i := range state {
		state[i] += s[i]
	}
	return state
}
