package wrap_test

import (
	"bytes"
	"crypto/ecdh"
	"crypto/hkdf"
	"crypto/sha256"
	"encoding/binary"
	"encoding/hex"
	"math/rand"
	"slices"
	"testing"

	"orlop/api"
	"orlop/crypt"
	"orlop/wrap"
)

const (
	keyLen    = 32
	nonceLen  = 12
	boxLen    = 48
	packetLen = 113
	pointAt   = 1
	onceAt    = 33
	boxAt     = 65
)

// packet is one, as it is read from a stream, and written.
type packet struct {
	Mark  uint8
	Point [keyLen]byte
	Once  [keyLen]byte
	Box   [boxLen]byte
}

func (p packet) bytes() []byte {
	var out bytes.Buffer
	if err := binary.Write(&out, binary.BigEndian, p); err != nil {
		panic(err)
	}
	return out.Bytes()
}

// packetOf: the packet of just these bytes, and whether there is one.
func packetOf(b []byte) (packet, bool) {
	var p packet
	in := bytes.NewReader(b)
	err := binary.Read(in, binary.BigEndian, &p)
	return p, err == nil && in.Len() == 0 && p.Mark == 1
}

// key: the packet's, of what its points share, by the library's HKDF.
func (p packet) key(shared []byte) []byte {
	key, err := hkdf.Key(sha256.New, shared, append(p.Once[:], p.Point[:]...), "orlop wrap", keyLen)
	if err != nil {
		panic(err)
	}
	return key
}

// pointOf: a scalar's, by the library.
func pointOf(scalar []byte) []byte { return scalarOf(scalar).PublicKey().Bytes() }

func scalarOf(scalar []byte) *ecdh.PrivateKey {
	own, err := ecdh.X25519().NewPrivateKey(scalar)
	if err != nil {
		panic(err)
	}
	return own
}

// sharedBy: what a scalar and a point share, by the library, which tells of a point of low order by an error.
func sharedBy(scalar, point []byte) ([]byte, bool) {
	others, err := ecdh.X25519().NewPublicKey(point)
	if err != nil {
		panic(err)
	}
	secret, err := scalarOf(scalar).ECDH(others)
	return secret, err == nil
}

// wrappedBy: a packet put together in another way.
func wrappedBy(c crypt.Crypt, once, point, key, context []byte) ([]byte, api.Code) {
	if len(once) != keyLen || len(point) != keyLen || len(key) != keyLen {
		return nil, api.ErrArg
	}
	shared, told := sharedBy(once, point)
	if !told {
		return nil, api.ErrLowOrder
	}
	p := packet{Mark: 1, Point: [keyLen]byte(point), Once: [keyLen]byte(pointOf(once))}
	return p.sealed(c, shared, key, context), api.OK
}

// sealed: a packet's bytes, with the box of a key.
func (p packet) sealed(c crypt.Crypt, shared, key, context []byte) []byte {
	box, code := c.Seal(p.key(shared), make([]byte, nonceLen), context, key)
	if code != api.OK {
		panic(code)
	}
	p.Box = [boxLen]byte(box)
	return p.bytes()
}

// unwrappedBy: a packet's key, looked for in another way.
func unwrappedBy(c crypt.Crypt, scalar, b, context []byte) ([]byte, api.Code) {
	if len(scalar) != keyLen {
		return nil, api.ErrArg
	}
	p, is := packetOf(b)
	if !is {
		return nil, api.ErrFormat
	}
	if string(p.Point[:]) != string(pointOf(scalar)) {
		return nil, api.ErrNoRecipient
	}
	shared, told := sharedBy(scalar, p.Once[:])
	if !told {
		return nil, api.ErrLowOrder
	}
	return c.Open(p.key(shared), make([]byte, nonceLen), context, p.Box[:])
}

// held is a crypt with which keys are wrapped and unwrapped, and a twin that is asked for the same in another way: each answer must be that one's.
type held struct {
	t       *testing.T
	c, twin crypt.Crypt
	isBook  bool
}

// withBoth: a test with the real crypt, and with a book.
func withBoth(t *testing.T, test func(h *held)) {
	t.Run("the real crypt", func(t *testing.T) { test(&held{t, crypt.Real(), crypt.Real(), false}) })
	t.Run("a book", func(t *testing.T) { test(&held{t, crypt.Book(), crypt.Book(), true}) })
}

// tryWrap: what Wrap tells, which must be the reference's.
func (h *held) tryWrap(once, point, key, context []byte) ([]byte, api.Code) {
	h.t.Helper()
	got, code := wrapped(h.t, h.c, once, point, key, context)
	want, wanted := wrappedBy(h.twin, once, point, key, context)
	if code != wanted || !bytes.Equal(got, want) {
		h.t.Fatalf("once %x, point %x, a key of %d bytes: %x, code %d, not %x, code %d", once, point, len(key), got, code, want, wanted)
	}
	return got, code
}

// wrap: a packet, which there must be.
func (h *held) wrap(once, point, key, context []byte) []byte {
	h.t.Helper()
	got, code := h.tryWrap(once, point, key, context)
	if code != api.OK || len(got) != packetLen || got[0] != 1 {
		h.t.Fatalf("once %x, point %x: %x, code %d", once, point, got, code)
	}
	return got
}

// unwrap: what Unwrap tells, which must be the reference's; and For, which looks at the length and the first byte alone.
func (h *held) unwrap(scalar, b, context []byte) ([]byte, api.Code) {
	h.t.Helper()
	got, code := unwrapped(h.t, h.c, scalar, b, context)
	want, wanted := unwrappedBy(h.c, scalar, b, context)
	if code != wanted || !bytes.Equal(got, want) {
		h.t.Fatalf("%x, unwrapped by %x: %x, code %d, not %x, code %d", b, scalar, got, code, want, wanted)
	}
	isFor(h.t, b)
	return got, code
}

// opens: that a packet is unwrapped, and has this key.
func (h *held) opens(scalar, b, context, key []byte) {
	h.t.Helper()
	if got, code := h.unwrap(scalar, b, context); code != api.OK || !bytes.Equal(got, key) {
		h.t.Fatalf("%x, unwrapped by %x: %x, code %d, not %x", b, scalar, got, code, key)
	}
}

// refuses: that it isn't, for this reason.
func (h *held) refuses(scalar, b, context []byte, want api.Code) {
	h.t.Helper()
	if got, code := h.unwrap(scalar, b, context); code != want || len(got) > 0 {
		h.t.Fatalf("%x, unwrapped by %x: %x, code %d, not %d", b, scalar, got, code, want)
	}
}

// counts: that the crypt's next box is its twin's, be it a book, whose boxes are numbered; and its next text's digest.
func (h *held) counts() {
	h.t.Helper()
	got, _ := h.c.Seal(row(keyLen), row(nonceLen), nil, row(9))
	want, _ := h.twin.Seal(row(keyLen), row(nonceLen), nil, row(9))
	if !bytes.Equal(got, want) {
		h.t.Fatalf("the next box is %x, not %x", got, want)
	}
	if got, want := h.c.Sum(got), h.twin.Sum(want); !bytes.Equal(got, want) {
		h.t.Fatalf("the next digest is %x, not %x", got, want)
	}
}

// isFor: what For tells, which must be the 32 bytes behind a 1, of as many bytes as a packet has.
func isFor(t *testing.T, b []byte) {
	t.Helper()
	var want []byte
	wanted := api.ErrFormat
	if len(b) == packetLen && bytes.HasPrefix(b, []byte{1}) {
		want, wanted = b[pointAt:onceAt], api.OK
	}
	got, code := watched(t, func(rows [][]byte) ([]byte, api.Code) { return wrap.For(rows[0]) }, b)
	if code != wanted || !bytes.Equal(got, want) {
		t.Fatalf("%x is for %x, code %d, not %x, code %d", b, got, code, want, wanted)
	}
}

// wrapped and unwrapped are the layer's calls, watched.
func wrapped(t *testing.T, c crypt.Crypt, once, point, key, context []byte) ([]byte, api.Code) {
	t.Helper()
	return watched(t, func(rows [][]byte) ([]byte, api.Code) { return wrap.Wrap(c, rows[0], rows[1], rows[2], rows[3]) }, once, point, key, context)
}

func unwrapped(t *testing.T, c crypt.Crypt, scalar, b, context []byte) ([]byte, api.Code) {
	t.Helper()
	return watched(t, func(rows [][]byte) ([]byte, api.Code) { return wrap.Unwrap(c, rows[0], rows[1], rows[2]) }, scalar, b, context)
}

// watched: a call is handed copies of some rows, with other bytes in their spare room, and may change none of that. Behind it all of that is written over, and what it answered too, so that memory which is kept, or told twice, is seen by what is asked next.
func watched(t *testing.T, call func([][]byte) ([]byte, api.Code), rows ...[]byte) ([]byte, api.Code) {
	t.Helper()
	handed, whole, kept := make([][]byte, len(rows)), make([][]byte, len(rows)), make([][]byte, len(rows))
	for i, b := range rows {
		if b == nil {
			continue
		}
		whole[i] = append(bytes.Clone(b), "what lies in the room behind it, which nobody may touch"...)
		handed[i], kept[i] = whole[i][:len(b)], bytes.Clone(whole[i])
	}
	got, code := call(handed)
	if !slices.EqualFunc(whole, kept, bytes.Equal) {
		t.Fatal("what was handed in, or its spare room, was changed")
	}
	if code != api.OK && len(got) > 0 {
		t.Fatalf("%x beside code %d", got, code)
	}
	answer := bytes.Clone(got)
	for i := range whole {
		turnAll(whole[i])
	}
	if !bytes.Equal(got, answer) {
		t.Fatal("what is answered lies in what was handed in")
	}
	turnAll(got[:cap(got)])
	return answer, code
}

func turnAll(b []byte) {
	for i := range b {
		b[i] ^= 0xff
	}
}

// ofLowOrder: all rows that tell a point of low order, with the greatest bit and without: of 0, 1, -1, and the two that doubled come to 1, and of 0 and 1 beyond the prime.
func ofLowOrder() [][]byte {
	var rows [][]byte
	for _, text := range []string{
		"0000000000000000000000000000000000000000000000000000000000000000",
		"0100000000000000000000000000000000000000000000000000000000000000",
		"ecffffffffffffffffffffffffffffffffffffffffffffffffffffffffffff7f",
		"e0eb7a7c3b41b8ae1656e3faf19fc46ada098deb9c32b1fd866205165f49b800",
		"5f9c95bca3508c24b1d0b1559c83ef5b04445cc4581c8e86d8224eddd09f1157",
		"edffffffffffffffffffffffffffffffffffffffffffffffffffffffffffff7f",
		"eeffffffffffffffffffffffffffffffffffffffffffffffffffffffffffff7f",
	} {
		rows = append(rows, unhex(text), turned(unhex(text), 255))
	}
	return rows
}

// alike: a scalar with other bits in the places that clamping fixes, all that there are.
func alike(scalar []byte) [][]byte {
	var all [][]byte
	for set := range 32 {
		same := bytes.Clone(scalar)
		for i, bit := range []int{0, 1, 2, 254, 255} {
			if set>>i&1 == 1 {
				same = turned(same, bit)
			}
		}
		all = append(all, same)
	}
	return all
}

// turned: the same bytes, but one bit.
func turned(b []byte, bit int) []byte {
	out := bytes.Clone(b)
	out[bit/8] ^= 1 << (bit % 8)
	return out
}

func unhex(text string) []byte {
	b, err := hex.DecodeString(text)
	if err != nil {
		panic(err)
	}
	return b
}

// row: n bytes, the same each time, the fewer the beginning of the more.
func row(n int) []byte { return drawn(5, n) }

// other: as row, other bytes.
func other(n int) []byte { return drawn(6, n) }

// scalar, once and keyOf: those of a number, each for its own use.
func scalar(number int64) []byte { return drawn(1000+number, keyLen) }
func once(number int64) []byte   { return drawn(2000+number, keyLen) }
func keyOf(number int64) []byte  { return drawn(3000+number, keyLen) }

func drawn(seed int64, n int) []byte {
	b := make([]byte, n)
	rand.New(rand.NewSource(seed)).Read(b)
	return b
}
