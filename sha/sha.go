// Package sha is layer 1: SHA-256 and bytes in hexadecimal.
package sha

const (
	blockSize = 64
	lengthAt  = 56 // where the length stands in the last block
	digits    = "0123456789abcdef"
)

// roundWords are k0 to k63.
var roundWords = [64]uint32{
	0x428a2f98, 0x71374491, 0xb5c0fbcf, 0xe9b5dba5, 0x3956c25b, 0x59f111f1, 0x923f82a4, 0xab1c5ed5,
	0xd807aa98, 0x12835b01, 0x243185be, 0x550c7dc3, 0x72be5d74, 0x80deb1fe, 0x9bdc06a7, 0xc19bf174,
	0xe49b69c1, 0xefbe4786, 0x0fc19dc6, 0x240ca1cc, 0x2de92c6f, 0x4a7484aa, 0x5cb0a9dc, 0x76f988da,
	0x983e5152, 0xa831c66d, 0xb00327c8, 0xbf597fc7, 0xc6e00bf3, 0xd5a79147, 0x06ca6351, 0x14292967,
	0x27b70a85, 0x2e1b2138, 0x4d2c6dfc, 0x53380d13, 0x650a7354, 0x766a0abb, 0x81c2c92e, 0x92722c85,
	0xa2bfe8a1, 0xa81a664b, 0xc24b8b70, 0xc76c51a3, 0xd192e819, 0xd6990624, 0xf40e3585, 0x106aa070,
	0x19a4c116, 0x1e376c08, 0x2748774c, 0x34b0bcb5, 0x391c0cb3, 0x4ed8aa4a, 0x5b9cca4f, 0x682e6ff3,
	0x748f82ee, 0x78a5636f, 0x84c87814, 0x8cc70208, 0x90befffa, 0xa4506ceb, 0xbef9a3f7, 0xc67178f2,
}

// Sum returns the SHA-256 digest of data, 32 bytes.
func Sum(data []byte) []byte {
	state := [8]uint32{
		0x6a09e667, 0xbb67ae85, 0x3c6ef372, 0xa54ff53a,
		0x510e527f, 0x9b05688c, 0x1f83d9ab, 0x5be0cd19,
	}
	whole := len(data) - len(data)%blockSize
	state = absorb(state, data[:whole])
	state = absorb(state, ending(data[whole:], len(data)))
	digest := make([]byte, 0, 4*len(state))
	for _, w := range state {
		digest = append(digest, byte(w>>24), byte(w>>16), byte(w>>8), byte(w))
	}
	return digest
}

// Hex returns two hexadecimal digits for each byte of b.
func Hex(b []byte) string {
	text := make([]byte, 0, 2*len(b))
	for _, x := range b {
		text = append(text, digits[x>>4], digits[x&15])
	}
	return string(text)
}

// ending returns the padded blocks behind the whole ones. They are built apart,
// since appending to the data would write into its caller's spare capacity.
func ending(rest []byte, length int) []byte {
	size := blockSize
	if len(rest) >= lengthAt { // the byte 128 takes the length's place
		size = 2 * blockSize
	}
	b := make([]byte, size)
	copy(b, rest)
	b[len(rest)] = 128
	bits := 8 * uint64(length)
	for i := range 8 {
		b[size-1-i] = byte(bits >> (8 * i))
	}
	return b
}

// absorb returns the state after the blocks.
func absorb(state [8]uint32, blocks []byte) [8]uint32 {
	for at := 0; at < len(blocks); at += blockSize {
		w := schedule(blocks[at : at+blockSize])
		for i, x := range rounds(state, &w) {
			state[i] += x
		}
	}
	return state
}

// schedule returns the message schedule of a block.
func schedule(block []byte) [64]uint32 {
	var w [64]uint32
	for t := range 16 {
		b := block[4*t : 4*t+4]
		w[t] = uint32(b[0])<<24 | uint32(b[1])<<16 | uint32(b[2])<<8 | uint32(b[3])
	}
	for t := 16; t < len(w); t++ {
		p, q := w[t-15], w[t-2]
		s0 := rotated(p, 7) ^ rotated(p, 18) ^ p>>3
		s1 := rotated(q, 17) ^ rotated(q, 19) ^ q>>10
		w[t] = w[t-16] + s0 + w[t-7] + s1
	}
	return w
}

// rounds returns a to h after the 64 rounds of a block.
func rounds(state [8]uint32, w *[64]uint32) [8]uint32 {
	a, b, c, d := state[0], state[1], state[2], state[3]
	e, f, g, h := state[4], state[5], state[6], state[7]
	for t := range w {
		choice := (e & f) ^ (^e & g)
		majority := (a & b) ^ (a & c) ^ (b & c)
		x := h + (rotated(e, 6) ^ rotated(e, 11) ^ rotated(e, 25)) + choice + roundWords[t] + w[t]
		y := (rotated(a, 2) ^ rotated(a, 13) ^ rotated(a, 22)) + majority
		h, g, f, e = g, f, e, d+x
		d, c, b, a = c, b, a, x+y
	}
	return [8]uint32{a, b, c, d, e, f, g, h}
}

// rotated returns x with its bits n places to the right, those that fall out coming in on the left.
func rotated(x uint32, n int) uint32 {
	return x>>n | x<<(32-n)
}
