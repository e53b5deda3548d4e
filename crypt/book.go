package crypt

import (
	"bytes"

	"orlop/api"
	"orlop/word"
)

// mark is what a book's digests begin with.
const mark = "SUM!"

// book remembers what it was asked for: nothing of a text goes into its digest, or into its box, so that only the book leads back to it.
type book struct {
	numbers map[string]uint64  // of the texts that were digested
	texts   map[sealing][]byte // of all boxes
}

// sealing is what a box was sealed with, and the box. No two boxes of a book are alike, as each begins with its number: the first one that was sealed so is the only one.
type sealing struct{ key, nonce, beside, box string }

// Sum: a text's digest.
func (b *book) Sum(text []byte) []byte {
	number, known := b.numbers[string(text)]
	if !known {
		number = uint64(len(b.numbers))
		b.numbers[string(text)] = number
	}
	end := word.Big64(number)
	out := make([]byte, api.KeyLen)
	copy(out, mark)
	copy(out[len(out)-len(end):], end)
	return out
}

// Seal: a text's box. ErrArg.
func (b *book) Seal(key, nonce, beside, text []byte) ([]byte, api.Code) {
	if !may(key, nonce) {
		return nil, api.ErrArg
	}
	box := boxOf(uint64(len(b.texts)), len(text)+api.TagLen)
	b.texts[sealing{string(key), string(nonce), string(beside), string(box)}] = bytes.Clone(text)
	return box, api.OK
}

// Open: a box's text. ErrArg, ErrFormat, ErrAuth.
func (b *book) Open(key, nonce, beside, box []byte) ([]byte, api.Code) {
	if !may(key, nonce) {
		return nil, api.ErrArg
	}
	if len(box) < api.TagLen {
		return nil, api.ErrFormat
	}
	text, sealed := b.texts[sealing{string(key), string(nonce), string(beside), string(box)}]
	if !sealed {
		return nil, api.ErrAuth
	}
	return bytes.Clone(text), api.OK
}

// may: whether a key and a nonce are as long as they must be.
func may(key, nonce []byte) bool { return len(key) == api.KeyLen && len(nonce) == api.NonceLen }

// boxOf: a number's bytes, again and again.
func boxOf(number uint64, length int) []byte {
	again := word.Big64(number)
	box := make([]byte, length)
	for i := range box {
		box[i] = again[i%len(again)]
	}
	return box
}
