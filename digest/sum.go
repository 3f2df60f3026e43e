package digest

import (
	"math/bits"
)

const (
	block  = 64 // bytes that are mixed in at a time
	rounds = 64 // numbers that such a block is spread to
	size   = 32 // bytes of a digest
)

// cubes is the chapter's K, written out: else the roots would have to be drawn for each text anew.
var cubes = [rounds]uint32{
	0x428a2f98, 0x71374491, 0xb5c0fbcf, 0xe9b5dba5, 0x3956c25b, 0x59f111f1, 0x923f82a4, 0xab1c5ed5,
	0xd807aa98, 0x12835b01, 0x243185be, 0x550c7dc3, 0x72be5d74, 0x80deb1fe, 0x9bdc06a7, 0xc19bf174,
	0xe49b69c1, 0xefbe4786, 0x0fc19dc6, 0x240ca1cc, 0x2de92c6f, 0x4a7484aa, 0x5cb0a9dc, 0x76f988da,
	0x983e5152, 0xa831c66d, 0xb00327c8, 0xbf597fc7, 0xc6e00bf3, 0xd5a79147, 0x06ca6351, 0x14292967,
	0x27b70a85, 0x2e1b2138, 0x4d2c6dfc, 0x53380d13, 0x650a7354, 0x766a0abb, 0x81c2c92e, 0x92722c85,
	0xa2bfe8a1, 0xa81a664b, 0xc24b8b70, 0xc76c51a3, 0xd192e819, 0xd6990624, 0xf40e3585, 0x106aa070,
	0x19a4c116, 0x1e376c08, 0x2748774c, 0x34b0bcb5, 0x391c0cb3, 0x4ed8aa4a, 0x5b9cca4f, 0x682e6ff3,
	0x748f82ee, 0x78a5636f, 0x84c87814, 0x8cc70208, 0x90befffa, 0xa4506ceb, 0xbef9a3f7, 0xc67178f2,
}

// Sum copies none of the text but what is left behind its whole blocks, so that a long one isn't there twice.
func Sum(s string) string {
	// Of the chapter's H too the roots are drawn ahead.
	h := [8]uint32{0x6a09e667, 0xbb67ae85, 0x3c6ef372, 0xa54ff53a, 0x510e527f, 0x9b05688c, 0x1f83d9ab, 0x5be0cd19}
	h = mixAll(h, s)
	h = mixAll(h, ending(s[len(s)-len(s)%block:], len(s)))
	out := make([]byte, 0, size)
	for _, x := range h {
		out = append(out, byte(x>>24), byte(x>>16), byte(x>>8), byte(x))
	}
	return string(out)
}

// ending is one block, or two, where the length finds no room behind the rest.
func ending(rest string, length int) string {
	out := append([]byte(rest), 0x80)
	for len(out)%block != block-8 {
		out = append(out, 0)
	}
	// The number of bits may be above what an int has on a machine of 32 bits.
	n := uint64(length) * 8
	for shift := 56; shift >= 0; shift -= 8 {
		out = append(out, byte(n>>uint(shift)))
	}
	return string(out)
}

// mixAll leaves out what is less than a block at the end: that is the ending's.
func mixAll(h [8]uint32, s string) [8]uint32 {
	for ; len(s) >= block; s = s[block:] {
		h = mix(h, spread(s[:block]))
	}
	return h
}

// spread is the chapter's w. It is told apart from mix, since it hangs on the block alone.
func spread(s string) [rounds]uint32 {
	var w [rounds]uint32
	for t := range 16 {
		w[t] = uint32(s[4*t])<<24 | uint32(s[4*t+1])<<16 | uint32(s[4*t+2])<<8 | uint32(s[4*t+3])
	}
	for t := 16; t < rounds; t++ {
		x, y := w[t-15], w[t-2]
		s0 := turn(x, 7) ^ turn(x, 18) ^ x>>3
		s1 := turn(y, 17) ^ turn(y, 19) ^ y>>10
		w[t] = w[t-16] + s0 + w[t-7] + s1
	}
	return w
}

// mix has the chapter's letters, so that the two can be held against each other; its h of the eight is l here, since h
// are the numbers that stay.
func mix(h [8]uint32, w [rounds]uint32) [8]uint32 {
	a, b, c, d, e, f, g, l := h[0], h[1], h[2], h[3], h[4], h[5], h[6], h[7]
	for t := range rounds {
		ch := e&f | g&^e
		maj := a&b | a&c | b&c
		T := l + (turn(e, 6) ^ turn(e, 11) ^ turn(e, 25)) + ch + cubes[t] + w[t]
		U := (turn(a, 2) ^ turn(a, 13) ^ turn(a, 22)) + maj
		a, b, c, d, e, f, g, l = T+U, a, b, c, d+T, e, f, g
	}
	return [8]uint32{h[0] + a, h[1] + b, h[2] + c, h[3] + d, h[4] + e, h[5] + f, h[6] + g, h[7] + l}
}

// turn is there since the library turns left alone, and the chapter right.
func turn(x uint32, by int) uint32 {
	return bits.RotateLeft32(x, -by)
}
