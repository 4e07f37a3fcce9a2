package sha

import (
	"math/bits"

	"gatepost/api"
)

// blockSize is how many bytes FIPS 180-4 mixes into the words at a time.
const blockSize = 64

// lengthSize is how many bytes the length has that ends the last block.
const lengthSize = 8

// rounds are the constants of the rounds: FIPS 180-4, section 4.2.2.
var rounds = [64]uint32{
	0x428a2f98, 0x71374491, 0xb5c0fbcf, 0xe9b5dba5, 0x3956c25b, 0x59f111f1, 0x923f82a4, 0xab1c5ed5,
	0xd807aa98, 0x12835b01, 0x243185be, 0x550c7dc3, 0x72be5d74, 0x80deb1fe, 0x9bdc06a7, 0xc19bf174,
	0xe49b69c1, 0xefbe4786, 0x0fc19dc6, 0x240ca1cc, 0x2de92c6f, 0x4a7484aa, 0x5cb0a9dc, 0x76f988da,
	0x983e5152, 0xa831c66d, 0xb00327c8, 0xbf597fc7, 0xc6e00bf3, 0xd5a79147, 0x06ca6351, 0x14292967,
	0x27b70a85, 0x2e1b2138, 0x4d2c6dfc, 0x53380d13, 0x650a7354, 0x766a0abb, 0x81c2c92e, 0x92722c85,
	0xa2bfe8a1, 0xa81a664b, 0xc24b8b70, 0xc76c51a3, 0xd192e819, 0xd6990624, 0xf40e3585, 0x106aa070,
	0x19a4c116, 0x1e376c08, 0x2748774c, 0x34b0bcb5, 0x391c0cb3, 0x4ed8aa4a, 0x5b9cca4f, 0x682e6ff3,
	0x748f82ee, 0x78a5636f, 0x84c87814, 0x8cc70208, 0x90befffa, 0xa4506ceb, 0xbef9a3f7, 0xc67178f2,
}

// startWords are the words ahead of the first block: FIPS 180-4, section 5.3.3.
func startWords() [8]uint32 {
	return [8]uint32{
		0x6a09e667, 0xbb67ae85, 0x3c6ef372, 0xa54ff53a,
		0x510e527f, 0x9b05688c, 0x1f83d9ab, 0x5be0cd19,
	}
}

// digest is what a stream keeps of the bytes that it took: the words of all whole blocks, the rest of a block, and how many bytes there were. How long the rest is follows from size.
type digest struct {
	words [8]uint32
	rest  [blockSize]byte
	size  uint64
}

// take puts bytes behind the rest, and mixes each block that gets whole.
func (d *digest) take(b []byte) {
	for len(b) > 0 {
		n := copy(d.rest[d.size%blockSize:], b)
		d.size += uint64(n)
		b = b[n:]
		if d.size%blockSize == 0 {
			d.mix()
		}
	}
}

// finish pads what was taken to whole blocks, and tells the fingerprint. The digest is used up by it.
func (d *digest) finish() api.Hash {
	taken := d.size * 8
	var pad [blockSize]byte
	pad[0] = 0x80
	// One byte at least, and as many as leave just the length's room in a block.
	noughts := (2*blockSize - lengthSize - 1 - d.size%blockSize) % blockSize
	d.take(pad[:1+noughts])
	var length [lengthSize]byte
	putWord(length[:4], uint32(taken>>32))
	putWord(length[4:], uint32(taken))
	d.take(length[:])
	var h api.Hash
	for i, w := range d.words {
		putWord(h[4*i:], w)
	}
	return h
}

// mix takes a whole block into the words.
func (d *digest) mix() {
	if d.size == blockSize {
		// Only the first block finds no words yet: so a zero digest is one of no bytes.
		d.words = startWords()
	}
	d.words = mixed(d.words, schedule(d.rest))
}

// mixed is the words behind a block of that schedule: they go through all rounds, and are added to what they were.
func mixed(w [8]uint32, plan [64]uint32) [8]uint32 {
	a, b, c, d, e, f, g, h := w[0], w[1], w[2], w[3], w[4], w[5], w[6], w[7]
	for i, p := range plan {
		choice := e&f ^ ^e&g
		majority := a&b ^ a&c ^ b&c
		first := h + turn(e, 6, 11, 25) + choice + rounds[i] + p
		second := turn(a, 2, 13, 22) + majority
		a, b, c, d, e, f, g, h = first+second, a, b, c, d+first, e, f, g
	}
	return [8]uint32{w[0] + a, w[1] + b, w[2] + c, w[3] + d, w[4] + e, w[5] + f, w[6] + g, w[7] + h}
}

// schedule is the words that a block hands to the rounds, one each.
func schedule(block [blockSize]byte) [64]uint32 {
	var plan [64]uint32
	for i := range 16 {
		plan[i] = word(block[4*i:])
	}
	for i := 16; i < 64; i++ {
		plan[i] = spread(plan[i-2], 17, 19, 10) + plan[i-7] + spread(plan[i-15], 7, 18, 3) + plan[i-16]
	}
	return plan
}

// turn is x turned right by three distances, put together (FIPS 180-4's great sigmas).
func turn(x uint32, i, j, k int) uint32 {
	return bits.RotateLeft32(x, -i) ^ bits.RotateLeft32(x, -j) ^ bits.RotateLeft32(x, -k)
}

// spread is x turned right by two distances, and shifted by a third one (the small sigmas).
func spread(x uint32, i, j, k int) uint32 {
	return bits.RotateLeft32(x, -i) ^ bits.RotateLeft32(x, -j) ^ x>>k
}

// word reads four bytes, the most significant first.
func word(b []byte) uint32 {
	return uint32(b[0])<<24 | uint32(b[1])<<16 | uint32(b[2])<<8 | uint32(b[3])
}

// putWord writes four bytes, the most significant first.
func putWord(b []byte, w uint32) {
	for i := range 4 {
		b[i] = byte(w >> (24 - 8*i))
	}
}
