// Package digest is layer 1: see shared/doc/01-digest.md.
package digest

import "strings"

const hexDigits = "0123456789abcdef"

// Sum: the name of texts.
func Sum(parts ...string) string {
	p := press{words: startWords}
	for _, part := range parts {
		p.feed(part)
	}
	return p.finish()
}

// Join: a branch's name.
func Join(tag byte, parts ...string) string {
	p := press{words: startWords}
	p.feed(string([]byte{tag}))
	for _, part := range parts {
		p.feed(wordText(uint32(len(part))))
		p.feed(part)
	}
	return p.finish()
}

// Digits: a name's.
func Digits(name string) string {
	var b strings.Builder
	b.Grow(2 * len(name))
	for i := range len(name) {
		b.WriteByte(hexDigits[name[i]>>4])
		b.WriteByte(hexDigits[name[i]&15])
	}
	return b.String()
}
