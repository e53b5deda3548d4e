package crypt_test

import (
	"bytes"
	"encoding/binary"
	"math/rand"
	"slices"
	"strings"
	"testing"

	"orlop/api"
	"orlop/crypt"
)

const (
	sumLen   = 32
	keyLen   = 32
	nonceLen = 12
	tagLen   = 16
)

// reckoned is a book reckoned without a map and without bytes: what it was asked for lies in lists of strings, searched from the first on.
type reckoned struct {
	digested []string
	boxes    []boxed
}

type boxed struct{ key, nonce, beside, text, box string }

func (r *reckoned) sum(text []byte) []byte {
	at := slices.Index(r.digested, string(text))
	if at < 0 {
		at = len(r.digested)
		r.digested = append(r.digested, string(text))
	}
	return digest(at)
}

func (r *reckoned) seal(key, nonce, beside, text []byte) ([]byte, api.Code) {
	if len(key) != keyLen || len(nonce) != nonceLen {
		return nil, api.ErrArg
	}
	box := numbered(len(r.boxes), len(text))
	r.boxes = append(r.boxes, boxed{string(key), string(nonce), string(beside), string(text), string(box)})
	return box, api.OK
}

func (r *reckoned) open(key, nonce, beside, box []byte) ([]byte, api.Code) {
	switch {
	case len(key) != keyLen || len(nonce) != nonceLen:
		return nil, api.ErrArg
	case len(box) < tagLen:
		return nil, api.ErrFormat
	}
	for _, x := range r.boxes {
		if x.key == string(key) && x.nonce == string(nonce) && x.beside == string(beside) && x.box == string(box) {
			return []byte(x.text), api.OK
		}
	}
	return nil, api.ErrAuth
}

// digest: a book's digest of the text of a number.
func digest(number int) []byte {
	return binary.BigEndian.AppendUint64(append([]byte("SUM!"), make([]byte, 20)...), uint64(number))
}

// numbered: a book's box of a number, of a text of so many bytes.
func numbered(number, texts int) []byte {
	once := string(binary.BigEndian.AppendUint64(nil, uint64(number)))
	return []byte(strings.Repeat(once, texts/8+3)[:texts+tagLen])
}

// held is a book of which each answer must be that of one reckoned another way.
type held struct {
	t    *testing.T
	book crypt.Crypt
	want reckoned
}

func newHeld(t *testing.T) *held { return &held{t: t, book: crypt.Book()} }

func (h *held) sum(text []byte) []byte {
	h.t.Helper()
	got := sumOf(h.t, h.book, text)
	if want := h.want.sum(text); !bytes.Equal(got, want) {
		h.t.Fatalf("Sum of %d bytes: % x, not % x", len(text), got, want)
	}
	return got
}

func (h *held) seal(key, nonce, beside, text []byte) []byte {
	h.t.Helper()
	got, code := boxOf(h.t, h.book, key, nonce, beside, text)
	want, wanted := h.want.seal(key, nonce, beside, text)
	if code != wanted || !bytes.Equal(got, want) {
		h.t.Fatalf("Seal of %d bytes: % x, code %d, not % x, code %d", len(text), got, code, want, wanted)
	}
	return got
}

func (h *held) open(key, nonce, beside, box []byte) api.Code {
	h.t.Helper()
	got, code := textOf(h.t, h.book, key, nonce, beside, box)
	want, wanted := h.want.open(key, nonce, beside, box)
	if code != wanted || !bytes.Equal(got, want) {
		h.t.Fatalf("Open of a box of %d bytes: %q, code %d, not %q, code %d", len(box), got, code, want, wanted)
	}
	return code
}

// opens: that a box is opened, and is this text's.
func (h *held) opens(key, nonce, beside, box, text []byte) {
	h.t.Helper()
	h.open(key, nonce, beside, box)
	opens(h.t, h.book, key, nonce, beside, box, text)
}

// refuses: that a box isn't opened, for this reason.
func (h *held) refuses(key, nonce, beside, box []byte, want api.Code) {
	h.t.Helper()
	if code := h.open(key, nonce, beside, box); code != want {
		h.t.Fatalf("Open of a box of %d bytes: code %d, not %d", len(box), code, want)
	}
}

// has: that a book's next digest, of a text that it doesn't know, and its next box have these numbers.
func (h *held) has(texts, boxes int) {
	h.t.Helper()
	if got := h.sum(drawn(9999, 50+texts)); !bytes.Equal(got, digest(texts)) {
		h.t.Fatalf("the next digest is % x, not number %d", got, texts)
	}
	if got := h.seal(row(keyLen), other(nonceLen), nil, row(5)); !bytes.Equal(got, numbered(boxes, 5)) {
		h.t.Fatalf("the next box is % x, not number %d", got, boxes)
	}
}

func opens(t *testing.T, c crypt.Crypt, key, nonce, beside, box, text []byte) {
	t.Helper()
	if got, code := textOf(t, c, key, nonce, beside, box); code != api.OK || !bytes.Equal(got, text) {
		t.Fatalf("a box of %d bytes: %d bytes, code %d, not the %d that were sealed", len(box), len(got), code, len(text))
	}
}

func refuses(t *testing.T, c crypt.Crypt, key, nonce, beside, box []byte, want api.Code) {
	t.Helper()
	if got, code := textOf(t, c, key, nonce, beside, box); code != want || len(got) != 0 {
		t.Fatalf("a key of %d bytes, a nonce of %d, a box of %d: % x, code %d, not %d", len(key), len(nonce), len(box), got, code, want)
	}
}

// sumOf, boxOf and textOf are a crypt's calls, watched.
func sumOf(t *testing.T, c crypt.Crypt, text []byte) []byte {
	t.Helper()
	got, _ := watched(t, func(rows [][]byte) ([]byte, api.Code) { return c.Sum(rows[0]), api.OK }, text)
	return got
}

func boxOf(t *testing.T, c crypt.Crypt, key, nonce, beside, text []byte) ([]byte, api.Code) {
	t.Helper()
	return watched(t, func(rows [][]byte) ([]byte, api.Code) { return c.Seal(rows[0], rows[1], rows[2], rows[3]) }, key, nonce, beside, text)
}

func textOf(t *testing.T, c crypt.Crypt, key, nonce, beside, box []byte) ([]byte, api.Code) {
	t.Helper()
	return watched(t, func(rows [][]byte) ([]byte, api.Code) { return c.Open(rows[0], rows[1], rows[2], rows[3]) }, key, nonce, beside, box)
}

// watched: a call is handed copies of some rows, with other bytes in their spare room, and may change none of that. Behind it all of that is written over, and what it answered too, so that memory which is kept, or told twice, is seen by what is asked next.
func watched(t *testing.T, call func([][]byte) ([]byte, api.Code), rows ...[]byte) ([]byte, api.Code) {
	t.Helper()
	handed, whole, kept := make([][]byte, len(rows)), make([][]byte, len(rows)), make([][]byte, len(rows))
	for i, b := range rows {
		if b == nil {
			continue
		}
		whole[i] = slices.Concat(b, drawn(int64(i), 40))
		handed[i], kept[i] = whole[i][:len(b)], bytes.Clone(whole[i])
	}
	got, code := call(handed)
	if !slices.EqualFunc(whole, kept, bytes.Equal) {
		t.Fatal("what was handed in, or its spare room, was changed")
	}
	answer := bytes.Clone(got)
	for i := range whole {
		turnAll(whole[i])
	}
	if !bytes.Equal(got, answer) {
		t.Fatal("what is answered lies in what was handed in")
	}
	turnAll(got[:cap(got)])
	return answer, code
}

func turnAll(b []byte) {
	for i := range b {
		b[i] ^= 0xff
	}
}

// both crypts, new.
func both() map[string]crypt.Crypt {
	return map[string]crypt.Crypt{"the real crypt": crypt.Real(), "a book": crypt.Book()}
}

// turned: the same bytes, but one bit.
func turned(b []byte, bit int) []byte {
	out := bytes.Clone(b)
	out[bit/8] ^= 1 << (bit % 8)
	return out
}

// row: n bytes of which hardly two neighbours are alike, the same each time, the fewer the beginning of the more.
func row(n int) []byte { return drawn(5, n) }

// other: as row, other bytes.
func other(n int) []byte { return drawn(6, n) }

func drawn(seed int64, n int) []byte {
	b := make([]byte, n)
	rand.New(rand.NewSource(seed)).Read(b)
	return b
}
