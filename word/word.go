// Package word is layer 1: numbers as bytes, bytes held against one another, bytes wiped. See shared/doc/01-word.md.
package word

import "strings"

// digits are those of base sixteen, each at the place of its worth: Hex and Unhex read the same row, so that neither knows a digit which the other doesn't.
const digits = "0123456789abcdef"

// Put32: four bytes, the least first.
func Put32(v uint32) []byte { return leastFirst(uint64(v), 4) }

// Put64: eight bytes, the least first.
func Put64(v uint64) []byte { return leastFirst(v, 8) }

// Get32: the number of the first four bytes, the least first.
func Get32(b []byte) uint32 { return uint32(ofLeastFirst(b, 4)) }

// Get64: the number of the first eight bytes, the least first.
func Get64(b []byte) uint64 { return ofLeastFirst(b, 8) }

// Big32: four bytes, the greatest first.
func Big32(v uint32) []byte { return greatestFirst(uint64(v), 4) }

// Big64: eight bytes, the greatest first.
func Big64(v uint64) []byte { return greatestFirst(v, 8) }

// GetBig32: the number of the first four bytes, the greatest first.
func GetBig32(b []byte) uint32 { return uint32(ofGreatestFirst(b, 4)) }

// GetBig64: the number of the first eight bytes, the greatest first.
func GetBig64(b []byte) uint64 { return ofGreatestFirst(b, 8) }

func leastFirst(v uint64, n int) []byte {
	out := make([]byte, n)
	for i := range n {
		out[i] = byte(v >> (8 * i))
	}
	return out
}

func greatestFirst(v uint64, n int) []byte {
	out := make([]byte, n)
	for i := range n {
		out[n-1-i] = byte(v >> (8 * i))
	}
	return out
}

func ofLeastFirst(b []byte, n int) uint64 {
	var v uint64
	for i := range min(n, len(b)) {
		v |= uint64(b[i]) << (8 * i)
	}
	return v
}

// A byte's worth hangs on n, not on how many bytes there are: those that are missing are the least ones, and count as 0.
func ofGreatestFirst(b []byte, n int) uint64 {
	var v uint64
	for i := range min(n, len(b)) {
		v |= uint64(b[i]) << (8 * (n - 1 - i))
	}
	return v
}

// Equal: whether both are the same bytes. It doesn't stop at the first unlike byte, lest the time it takes tell how much of a tag was guessed.
func Equal(a, b []byte) bool {
	if len(a) != len(b) {
		return false
	}
	var unlike byte
	for i := range len(a) {
		unlike |= a[i] ^ b[i]
	}
	return unlike == 0
}

// Wipe: all bytes are 0.
func Wipe(b []byte) { clear(b) }

// Hex: each byte as two digits.
func Hex(b []byte) string {
	var out strings.Builder
	out.Grow(2 * len(b))
	for i := range len(b) {
		out.WriteByte(digits[b[i]>>4])
		out.WriteByte(digits[b[i]&15])
	}
	return out.String()
}

// Unhex: the bytes whose Hex a text is, and whether there are such. It goes by bytes, not by runes: no digit is longer than one.
func Unhex(text string) ([]byte, bool) {
	if len(text)%2 != 0 {
		return nil, false
	}
	out := make([]byte, len(text)/2)
	for i := range len(out) {
		high := strings.IndexByte(digits, text[2*i])
		low := strings.IndexByte(digits, text[2*i+1])
		if high < 0 || low < 0 {
			return nil, false
		}
		out[i] = byte(high<<4 | low)
	}
	return out, true
}
