// Package digest is layer 1: sums of 256 bits: see shared/doc/01-digest.md.
package digest

const (
	blockSize  = 64
	lengthSize = 8
	signs      = "0123456789abcdef"
)

var beginnings = [8]uint32{
	0x6a09e667, 0xbb67ae85, 0x3c6ef372, 0xa54ff53a, 0x510e527f, 0x9b05688c, 0x1f83d9ab, 0x5be0cd19,
}

var constants = [64]uint32{
	0x428a2f98, 0x71374491, 0xb5c0fbcf, 0xe9b5dba5, 0x3956c25b, 0x59f111f1, 0x923f82a4, 0xab1c5ed5,
	0xd807aa98, 0x12835b01, 0x243185be, 0x550c7dc3, 0x72be5d74, 0x80deb1fe, 0x9bdc06a7, 0xc19bf174,
	0xe49b69c1, 0xefbe4786, 0x0fc19dc6, 0x240ca1cc, 0x2de92c6f, 0x4a7484aa, 0x5cb0a9dc, 0x76f988da,
	0x983e5152, 0xa831c66d, 0xb00327c8, 0xbf597fc7, 0xc6e00bf3, 0xd5a79147, 0x06ca6351, 0x14292967,
	0x27b70a85, 0x2e1b2138, 0x4d2c6dfc, 0x53380d13, 0x650a7354, 0x766a0abb, 0x81c2c92e, 0x92722c85,
	0xa2bfe8a1, 0xa81a664b, 0xc24b8b70, 0xc76c51a3, 0xd192e819, 0xd6990624, 0xf40e3585, 0x106aa070,
	0x19a4c116, 0x1e376c08, 0x2748774c, 0x34b0bcb5, 0x391c0cb3, 0x4ed8aa4a, 0x5b9cca4f, 0x682e6ff3,
	0x748f82ee, 0x78a5636f, 0x84c87814, 0x8cc70208, 0x90befffa, 0xa4506ceb, 0xbef9a3f7, 0xc67178f2,
}

// Sum: of bytes.
func Sum(b []byte) [32]byte {
	r := begin()
	r.take(b)
	return r.end()
}

// Joined: of several texts, each with its length ahead, so that they can be told from one another.
func Joined(parts [][]byte) [32]byte {
	r := begin()
	for _, part := range parts {
		r.takeNumber(uint64(len(part)))
		r.take(part)
	}
	return r.end()
}

// Hex: as signs.
func Hex(s [32]byte) string {
	text := make([]byte, 0, 2*len(s))
	for _, b := range s {
		text = append(text, signs[b>>4], signs[b&15])
	}
	return string(text)
}

// running is the sum of a message that comes piece by piece: so long texts needn't be copied behind one another.
type running struct {
	words  [8]uint32
	block  [blockSize]byte
	filled int
	length uint64
}

func begin() running {
	return running{words: beginnings}
}

func (r *running) take(b []byte) {
	r.length += uint64(len(b))
	for len(b) > 0 {
		n := copy(r.block[r.filled:], b)
		b = b[n:]
		r.filled += n
		if r.filled == blockSize {
			r.words = mixed(r.words, r.block)
			r.filled = 0
		}
	}
}

// takeNumber takes a number in 8 bytes, the highest first.
func (r *running) takeNumber(x uint64) {
	var b [lengthSize]byte
	for i := range b {
		b[i] = byte(x >> (56 - 8*i))
	}
	r.take(b[:])
}

func (r *running) end() [32]byte {
	// What is taken for the end counts as length, too: so the message's own is read first.
	bits := 8 * r.length
	r.take([]byte{0x80})
	for r.filled != blockSize-lengthSize {
		r.take([]byte{0})
	}
	r.takeNumber(bits)
	var sum [32]byte
	for i := range sum {
		sum[i] = byte(r.words[i/4] >> (24 - 8*(i%4)))
	}
	return sum
}

// mixed is the sum so far with one more block.
func mixed(words [8]uint32, block [blockSize]byte) [8]uint32 {
	w := spread(block)
	a, b, c, d, e, f, g, h := words[0], words[1], words[2], words[3], words[4], words[5], words[6], words[7]
	for t := range w {
		t1 := h + (rotated(e, 6) ^ rotated(e, 11) ^ rotated(e, 25)) + (e&f ^ ^e&g) + constants[t] + w[t]
		t2 := (rotated(a, 2) ^ rotated(a, 13) ^ rotated(a, 22)) + (a&b ^ a&c ^ b&c)
		h, g, f, e, d, c, b, a = g, f, e, d+t1, c, b, a, t1+t2
	}
	return [8]uint32{
		words[0] + a, words[1] + b, words[2] + c, words[3] + d,
		words[4] + e, words[5] + f, words[6] + g, words[7] + h,
	}
}

// spread makes the 64 words W of a block's 16.
func spread(block [blockSize]byte) [64]uint32 {
	var w [64]uint32
	for i, x := range block {
		w[i/4] = w[i/4]<<8 | uint32(x)
	}
	for t := 16; t < len(w); t++ {
		x, y := w[t-15], w[t-2]
		s0 := rotated(x, 7) ^ rotated(x, 18) ^ x>>3
		s1 := rotated(y, 17) ^ rotated(y, 19) ^ y>>10
		w[t] = s1 + w[t-7] + s0 + w[t-16]
	}
	return w
}

func rotated(x uint32, by uint) uint32 {
	return x>>by | x<<(32-by)
}
