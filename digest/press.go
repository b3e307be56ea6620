package digest

import (
	"math/bits"
	"strings"
)

const (
	blockSize  = 64
	lengthSize = 8
)

// startWords: of the square roots of the first 8 primes, the fractions' first 32 bits.
var startWords = [8]uint32{
	0x6a09e667, 0xbb67ae85, 0x3c6ef372, 0xa54ff53a, 0x510e527f, 0x9b05688c, 0x1f83d9ab, 0x5be0cd19,
}

// roundWords: of the cube roots of the first 64 primes, the fractions' first 32 bits.
var roundWords = [64]uint32{
	0x428a2f98, 0x71374491, 0xb5c0fbcf, 0xe9b5dba5, 0x3956c25b, 0x59f111f1, 0x923f82a4, 0xab1c5ed5,
	0xd807aa98, 0x12835b01, 0x243185be, 0x550c7dc3, 0x72be5d74, 0x80deb1fe, 0x9bdc06a7, 0xc19bf174,
	0xe49b69c1, 0xefbe4786, 0x0fc19dc6, 0x240ca1cc, 0x2de92c6f, 0x4a7484aa, 0x5cb0a9dc, 0x76f988da,
	0x983e5152, 0xa831c66d, 0xb00327c8, 0xbf597fc7, 0xc6e00bf3, 0xd5a79147, 0x06ca6351, 0x14292967,
	0x27b70a85, 0x2e1b2138, 0x4d2c6dfc, 0x53380d13, 0x650a7354, 0x766a0abb, 0x81c2c92e, 0x92722c85,
	0xa2bfe8a1, 0xa81a664b, 0xc24b8b70, 0xc76c51a3, 0xd192e819, 0xd6990624, 0xf40e3585, 0x106aa070,
	0x19a4c116, 0x1e376c08, 0x2748774c, 0x34b0bcb5, 0x391c0cb3, 0x4ed8aa4a, 0x5b9cca4f, 0x682e6ff3,
	0x748f82ee, 0x78a5636f, 0x84c87814, 0x8cc70208, 0x90befffa, 0xa4506ceb, 0xbef9a3f7, 0xc67178f2,
}

// press is a digest on its way: the words so far, and the block that isn't full yet.
type press struct {
	words [8]uint32
	block [blockSize]byte
	held  int    // bytes of block that are taken
	total uint64 // bytes fed
}

// feed goes on in the block where the text before it ended, so that no cut between texts shows.
func (p *press) feed(text string) {
	p.total += uint64(len(text))
next:
	n := copy(p.block[p.held:], text)
	p.held += n
	text = text[n:]
	if p.held == blockSize {
		p.pressBlock()
		p.held = 0
		goto next
	}
}

// finish fills the last block up: a bit that ends the text, noughts, and the text's length in bits.
func (p *press) finish() string {
	length := p.total * 8
	noughts := (2*blockSize - 1 - lengthSize - p.held) % blockSize
	p.feed("\x80" + strings.Repeat("\x00", noughts))
	p.feed(wordText(uint32(length>>32)) + wordText(uint32(length)))
	var b strings.Builder
	for _, w := range p.words {
		b.WriteString(wordText(w))
	}
	return b.String()
}

// pressBlock keeps the words in variables of their own: an array handed from round to round is far slower.
func (p *press) pressBlock() {
	w := p.spread()
	a, b, c, d := p.words[0], p.words[1], p.words[2], p.words[3]
	e, f, g, h := p.words[4], p.words[5], p.words[6], p.words[7]
	for i := range w {
		s1 := turnRight(e, 6) ^ turnRight(e, 11) ^ turnRight(e, 25)
		choice := e&f ^ ^e&g
		t := h + s1 + choice + roundWords[i] + w[i]
		s0 := turnRight(a, 2) ^ turnRight(a, 13) ^ turnRight(a, 22)
		most := a&b ^ a&c ^ b&c
		h, g, f, e = g, f, e, d+t
		d, c, b, a = c, b, a, t+s0+most
	}
	for i, x := range [8]uint32{a, b, c, d, e, f, g, h} {
		p.words[i] += x
	}
}

// spread makes the 64 words of the rounds of the block's 16.
func (p *press) spread() [64]uint32 {
	var w [64]uint32
	for i := range 16 {
		b := p.block[4*i:]
		w[i] = uint32(b[0])<<24 | uint32(b[1])<<16 | uint32(b[2])<<8 | uint32(b[3])
	}
	for i := 16; i < len(w); i++ {
		x, y := w[i-15], w[i-2]
		s0 := turnRight(x, 7) ^ turnRight(x, 18) ^ x>>3
		s1 := turnRight(y, 17) ^ turnRight(y, 19) ^ y>>10
		w[i] = w[i-16] + s0 + w[i-7] + s1
	}
	return w
}

func turnRight(x uint32, n int) uint32 { return bits.RotateLeft32(x, -n) }

// wordText: a word's 4 bytes, the highest first.
func wordText(w uint32) string {
	return string([]byte{byte(w >> 24), byte(w >> 16), byte(w >> 8), byte(w)})
}
