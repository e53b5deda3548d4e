package seal_test

import (
	"bytes"
	"encoding/binary"
	"io"
	"math/rand"
	"slices"
	"testing"

	"orlop/api"
	"orlop/crypt"
	"orlop/seal"
)

const (
	keyLen    = 32
	prefixLen = 7
	headLen   = 12
	tagLen    = 16
	maxSize   = 65536
)

// begin is a head, as it is read from a stream.
type begin struct {
	Mark   uint8
	Prefix [prefixLen]byte
	Size   uint32
}

// nonce is a chunk's, as it is written.
type nonce struct {
	Prefix [prefixLen]byte
	Number uint32
	Last   bool
}

func written(v any) []byte {
	var out bytes.Buffer
	if err := binary.Write(&out, binary.BigEndian, v); err != nil {
		panic(err)
	}
	return out.Bytes()
}

// sealedBy: a layer sealed, its chunks read from a stream until there are no bytes left.
func sealedBy(c crypt.Crypt, key, prefix, context, layer []byte, size int) ([]byte, api.Code) {
	if len(key) != keyLen || len(prefix) != prefixLen || size < 1 || size > maxSize {
		return nil, api.ErrArg
	}
	head := written(begin{1, [prefixLen]byte(prefix), uint32(size)})
	out := [][]byte{head}
	in := bytes.NewBuffer(bytes.Clone(layer))
	n := nonce{Prefix: [prefixLen]byte(prefix)}
	for ; !n.Last; n.Number++ {
		chunk := bytes.Clone(in.Next(size))
		n.Last = in.Len() == 0
		box, _ := c.Seal(key, written(n), append(bytes.Clone(head), context...), chunk)
		out = append(out, box)
	}
	return bytes.Join(out, nil), api.OK
}

// openedBy: a layer opened, its boxes read from a stream, and opened from the last on, all of them.
func openedBy(c crypt.Crypt, key, context, sealed []byte) ([]byte, api.Code) {
	if len(key) != keyLen {
		return nil, api.ErrArg
	}
	var head begin
	in := bytes.NewReader(sealed)
	if binary.Read(in, binary.BigEndian, &head) != nil || head.Mark != 1 || head.Size == 0 || head.Size > maxSize {
		return nil, api.ErrFormat
	}
	boxes := read(in, int64(head.Size)+tagLen)
	if len(boxes) == 0 || len(boxes[len(boxes)-1]) < tagLen || len(boxes) > 1 && len(boxes[len(boxes)-1]) == tagLen {
		return nil, api.ErrFormat
	}
	chunks, opened := make([][]byte, len(boxes)), true
	for i, box := range slices.Backward(boxes) {
		chunk, code := c.Open(key, written(nonce{head.Prefix, uint32(i), i == len(boxes)-1}), append(written(head), context...), box)
		chunks[i], opened = chunk, opened && code == api.OK
	}
	if !opened {
		return nil, api.ErrAuth
	}
	return bytes.Join(chunks, nil), api.OK
}

// read: what there is in pieces of so many bytes, and what is left.
func read(in *bytes.Reader, size int64) [][]byte {
	var pieces [][]byte
	for in.Len() > 0 {
		piece, _ := io.ReadAll(io.LimitReader(in, size))
		pieces = append(pieces, piece)
	}
	return pieces
}

// boxesOf: those of a sealed layer.
func boxesOf(sealed []byte) [][]byte {
	in := bytes.NewReader(sealed)
	var head begin
	if err := binary.Read(in, binary.BigEndian, &head); err != nil {
		panic(err)
	}
	return read(in, int64(head.Size)+tagLen)
}

// put: a head and boxes, put together.
func put(head []byte, boxes ...[]byte) []byte {
	return slices.Concat(head[:headLen], bytes.Join(boxes, nil))
}

// held is a crypt with which layers are sealed and opened, and a twin that is asked for the same in another way: each answer must be that one's.
type held struct {
	t       *testing.T
	c, twin crypt.Crypt
}

// withBoth: a test with the real crypt, and with a book.
func withBoth(t *testing.T, test func(h *held)) {
	t.Run("the real crypt", func(t *testing.T) { test(&held{t, crypt.Real(), crypt.Real()}) })
	t.Run("a book", func(t *testing.T) { test(&held{t, crypt.Book(), crypt.Book()}) })
}

func (h *held) seal(key, prefix, context, layer []byte, size int) []byte {
	h.t.Helper()
	got, code := sealed(h.t, h.c, key, prefix, context, layer, size)
	want, wanted := sealedBy(h.twin, key, prefix, context, layer, size)
	if code != wanted || !bytes.Equal(got, want) {
		h.t.Fatalf("a key of %d bytes, a prefix of %d, a layer of %d in chunks of %d: % x, code %d, not % x, code %d", len(key), len(prefix), len(layer), size, few(got), code, few(want), wanted)
	}
	if code == api.OK && len(got) != seal.Length(len(layer), size) {
		h.t.Fatalf("a layer of %d bytes in chunks of %d has %d, sealed, not %d", len(layer), size, len(got), seal.Length(len(layer), size))
	}
	return got
}

func (h *held) open(key, context, b []byte) api.Code {
	h.t.Helper()
	got, code := opened(h.t, h.c, key, context, b)
	want, wanted := openedBy(h.c, key, context, b)
	if code != wanted || !bytes.Equal(got, want) {
		h.t.Fatalf("% x, %d bytes in all, opened: % x, code %d, not % x, code %d", few(b), len(b), few(got), code, few(want), wanted)
	}
	return code
}

// opens: that a sealed layer is opened, and is this one.
func (h *held) opens(key, context, b, layer []byte) {
	h.t.Helper()
	h.open(key, context, b)
	if got, code := opened(h.t, h.c, key, context, b); code != api.OK || !bytes.Equal(got, layer) {
		h.t.Fatalf("a sealed layer of %d bytes: % x, code %d, not the layer of %d", len(b), few(got), code, len(layer))
	}
}

// refuses: that it isn't opened, for this reason.
func (h *held) refuses(key, context, b []byte, want api.Code) {
	h.t.Helper()
	if code := h.open(key, context, b); code != want {
		h.t.Fatalf("% x, %d bytes in all, opened with a key of %d: code %d, not %d", few(b), len(b), len(key), code, want)
	}
}

// refusesBoth: that it isn't opened, for one of two reasons.
func (h *held) refusesBoth(key, context, b []byte) {
	h.t.Helper()
	if code := h.open(key, context, b); code != api.ErrAuth && code != api.ErrFormat {
		h.t.Fatalf("% x, %d bytes in all, opened: code %d", few(b), len(b), code)
	}
}

// counts: that the crypt's next box is its twin's, be it a book, whose boxes are numbered.
func (h *held) counts() {
	h.t.Helper()
	got, _ := h.c.Seal(keyOf(99), row(12), nil, row(9))
	want, _ := h.twin.Seal(keyOf(99), row(12), nil, row(9))
	if !bytes.Equal(got, want) {
		h.t.Fatalf("the next box is % x, not % x", got, want)
	}
}

// sealed and opened are the layer's calls, watched.
func sealed(t *testing.T, c crypt.Crypt, key, prefix, context, layer []byte, size int) ([]byte, api.Code) {
	t.Helper()
	return watched(t, func(rows [][]byte) ([]byte, api.Code) { return seal.Seal(c, rows[0], rows[1], rows[2], rows[3], size) }, key, prefix, context, layer)
}

func opened(t *testing.T, c crypt.Crypt, key, context, b []byte) ([]byte, api.Code) {
	t.Helper()
	return watched(t, func(rows [][]byte) ([]byte, api.Code) { return seal.Open(c, rows[0], rows[1], rows[2]) }, key, context, b)
}

// watched: a call is handed copies of some rows, with other bytes in their spare room, and may change none of that. Behind it all of that is written over, and what it answered too, so that memory which is kept, or told twice, is seen by what is asked next.
func watched(t *testing.T, call func([][]byte) ([]byte, api.Code), rows ...[]byte) ([]byte, api.Code) {
	t.Helper()
	handed, whole, kept := make([][]byte, len(rows)), make([][]byte, len(rows)), make([][]byte, len(rows))
	for i, b := range rows {
		if b == nil {
			continue
		}
		whole[i] = slices.Concat(b, spare)
		handed[i], kept[i] = whole[i][:len(b)], bytes.Clone(whole[i])
	}
	got, code := call(handed)
	if !slices.EqualFunc(whole, kept, bytes.Equal) {
		t.Fatal("what was handed in, or its spare room, was changed")
	}
	if code != api.OK && len(got) > 0 {
		t.Fatalf("% x beside code %d", few(got), code)
	}
	answer := bytes.Clone(got)
	for i := range whole {
		turnAll(whole[i])
	}
	if !bytes.Equal(got, answer) {
		t.Fatal("what is answered lies in what was handed in")
	}
	turnAll(got[:cap(got)])
	return answer, code
}

// spare is what lies behind the rows that are handed in.
var spare = drawn(77, 40)

func turnAll(b []byte) {
	for i := range b {
		b[i] ^= 0xff
	}
}

// turned: the same bytes, but one bit.
func turned(b []byte, bit int) []byte {
	out := bytes.Clone(b)
	out[bit/8] ^= 1 << (bit % 8)
	return out
}

// few of some bytes, to be told.
func few(b []byte) []byte { return b[:min(len(b), 80)] }

// row: n bytes, the same each time, the fewer the beginning of the more.
func row(n int) []byte { return drawn(5, n) }

// other: as row, other bytes.
func other(n int) []byte { return drawn(6, n) }

func keyOf(seed int64) []byte    { return drawn(1000+seed, keyLen) }
func prefixOf(seed int64) []byte { return drawn(2000+seed, prefixLen) }

func drawn(seed int64, n int) []byte {
	b := make([]byte, n)
	rand.New(rand.NewSource(seed)).Read(b)
	return b
}
