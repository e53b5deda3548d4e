package seal_test

import (
	"bytes"
	"encoding/binary"
	"slices"
	"testing"

	"orlop/api"
	"orlop/crypt"
)

// cases: layers with a size, of no bytes, of few chunks and of some, the last one of one byte, nearly full and full.
var cases = []struct{ many, size int }{{0, 1}, {0, 10}, {0, 65536}, {1, 1}, {1, 10}, {2, 1}, {9, 10}, {10, 10}, {11, 10}, {19, 10}, {20, 10}, {21, 10}, {5, 1}, {31, 16}, {45, 17}, {64, 64}, {65, 64}, {30, 65536}}

// withCases: a test of each sealed layer.
func withCases(t *testing.T, test func(h *held, key, context, b, layer []byte)) {
	withBoth(t, func(h *held) {
		for i, x := range cases {
			key, prefix, context := keyOf(int64(i)), prefixOf(int64(i)), contexts[i%len(contexts)]
			b := h.seal(key, prefix, context, row(x.many), x.size)
			test(h, key, context, b, row(x.many))
			h.opens(key, context, b, row(x.many))
		}
		h.counts()
	})
}

// P17.2: a key that hasn't 32 bytes: ErrArg, ahead of all else that is wrong.
func TestOpenWithKeysOfOtherLengths(t *testing.T) {
	withCases(t, func(h *held, key, context, b, layer []byte) {
		wrong := [][]byte{b, nil, {}, {1}, b[:headLen-1], b[:headLen], b[:headLen+1], turned(b, 0), turned(b, 8*len(b)-1), append(bytes.Clone(b), 0), make([]byte, headLen+tagLen)}
		for _, n := range keyLengths {
			for _, x := range wrong {
				if n != keyLen {
					h.refuses(append(bytes.Clone(key), row(1<<17)...)[:n], context, x, api.ErrArg)
				}
			}
		}
		h.refuses(nil, nil, nil, api.ErrArg)
		h.refuses(append(bytes.Clone(key), 0), context, b, api.ErrArg)
	})
}

// P17.2, P17.3: each beginning: ErrFormat of what can't be cut into boxes, else ErrAuth.
func TestOpenBeginnings(t *testing.T) {
	withCases(t, func(h *held, key, context, b, layer []byte) {
		boxLen := int(binary.BigEndian.Uint32(b[8:])) + tagLen
		for n := range b {
			want := api.ErrAuth
			rest := n - headLen
			if rest < tagLen || rest > boxLen && rest%boxLen > 0 && rest%boxLen < tagLen+1 {
				want = api.ErrFormat
			}
			h.refuses(key, context, b[:n], want)
		}
	})
}

// P17.2, P17.3: bytes more, at the end, at the beginning and in between, and bytes fewer.
func TestOpenBytesMoreAndFewer(t *testing.T) {
	withCases(t, func(h *held, key, context, b, layer []byte) {
		for _, more := range [][]byte{{0}, {1}, {0xff}, {b[len(b)-1]}, make([]byte, tagLen), make([]byte, tagLen+1), b[:headLen], b[headLen:], b} {
			h.refusesBoth(key, context, slices.Concat(b, more))
			if !bytes.Equal(more, b[:headLen]) {
				h.refusesBoth(key, context, slices.Concat(more, b))
			}
		}
		for at := range b {
			h.refusesBoth(key, context, slices.Insert(bytes.Clone(b), at, b[at]^0x55))
			if fewer := slices.Delete(bytes.Clone(b), at, at+1); !bytes.Equal(fewer, b) {
				h.refusesBoth(key, context, fewer)
			}
		}
	})
}

// P17.2, P17.3: each bit turned, and each byte made another one: ErrAuth, but ErrFormat where the first byte isn't 1, or the size may not be or cuts no boxes.
func TestOpenTurnedBytes(t *testing.T) {
	withCases(t, func(h *held, key, context, b, layer []byte) {
		for bit := range 8 * len(b) {
			switch at := bit / 8; {
			case at == 0:
				h.refuses(key, context, turned(b, bit), api.ErrFormat)
			case at >= 1+prefixLen && at < headLen:
				h.refusesBoth(key, context, turned(b, bit))
			default:
				h.refuses(key, context, turned(b, bit), api.ErrAuth)
			}
		}
		for at := range b {
			for _, other := range []byte{0, 1, 2, 0x7f, 0xff} {
				x := bytes.Clone(b)
				if x[at] = other; b[at] != other {
					h.refusesBoth(key, context, x)
				}
			}
		}
		for mark := range 256 {
			if mark != 1 {
				h.refuses(key, context, append([]byte{byte(mark)}, b[1:]...), api.ErrFormat)
			}
		}
	})
}

// withSize: a sealed layer whose head tells another size.
func withSize(b []byte, size uint32) []byte {
	return slices.Concat(b[:1+prefixLen], binary.BigEndian.AppendUint32(nil, size), b[headLen:])
}

// P17.2, P17.3: the size in the head changed: ErrFormat of one that may not be, and of one by which it can't be cut; else ErrAuth.
func TestOpenOtherSizes(t *testing.T) {
	withCases(t, func(h *held, key, context, b, layer []byte) {
		for _, size := range []uint32{0, 65537, 65538, 1 << 17, 1<<16 + 10, 1 << 24, 1<<24 + 10, 1<<31 - 1, 1 << 31, 1<<31 + 10, 1<<32 - 65536, 1<<32 - 16, 1<<32 - 1} {
			h.refuses(key, context, withSize(b, size), api.ErrFormat)
			h.refuses(key, context, withSize(b, size)[:headLen], api.ErrFormat)
			h.refuses(key, context, withSize(b, size)[:headLen+tagLen], api.ErrFormat)
		}
		was := binary.BigEndian.Uint32(b[8:])
		for size := uint32(1); size < 100; size++ {
			if size != was {
				want := api.ErrAuth
				if rest, box := len(b)-headLen, int(size)+tagLen; rest > box && rest%box > 0 && rest%box < tagLen+1 {
					want = api.ErrFormat
				}
				h.refuses(key, context, withSize(b, size), want)
			}
		}
		for _, size := range []uint32{65535, 65536} { // all of it is one box
			if size != was {
				h.refuses(key, context, withSize(b, size), api.ErrAuth)
			}
		}
	})
}

// P17.2, P17.3: another key or context, in one bit or in length, and a head with another prefix: ErrAuth.
func TestOpenWithOthers(t *testing.T) {
	withCases(t, func(h *held, key, context, b, layer []byte) {
		for bit := range 8 * keyLen {
			h.refuses(turned(key, bit), context, b, api.ErrAuth)
		}
		for bit := range 8 * len(context) {
			h.refuses(key, turned(context, bit), b, api.ErrAuth)
		}
		wrong := [][]byte{append(bytes.Clone(context), 0), append([]byte{0}, context...), append(bytes.Clone(context), b[:headLen]...), append(bytes.Clone(b[:headLen]), context...), []byte("other")}
		if len(context) > 0 {
			wrong = append(wrong, nil, []byte{}, context[1:], context[:len(context)-1])
		}
		for _, x := range wrong {
			h.refuses(key, x, b, api.ErrAuth)
		}
		h.refuses(key, context, slices.Concat(b[:1], prefixOf(99), b[8:]), api.ErrAuth)
		h.refuses(key, context, slices.Concat(b[:1], make([]byte, prefixLen), b[8:]), api.ErrAuth)
		h.refuses(make([]byte, keyLen), context, b, api.ErrAuth)
	})
}

// P17.2: nothing, a head alone, a head and fewer bytes than a box has: ErrFormat; a head and 16 bytes: the layer of no bytes, if it is its box, else ErrAuth.
func TestOpenOfFewBytes(t *testing.T) {
	withBoth(t, func(h *held) {
		key, prefix, context := keyOf(1), prefixOf(1), []byte("ctx")
		h.seal(key, prefix, nil, nil, 1) // a book's box of bytes 0 is another layer's, then
		for _, size := range []int{1, 2, 15, 16, 17, 255, 256, 65535, 65536} {
			empty := h.seal(key, prefix, context, nil, size)
			for n := range len(empty) {
				h.refuses(key, context, empty[:n], api.ErrFormat)
				h.refuses(key, context, append(bytes.Clone(empty[:headLen]), row(tagLen)...)[:n], api.ErrFormat)
				h.refuses(key, context, row(n), api.ErrFormat)
			}
			full := h.seal(key, prefix, context, row(size), size)
			others := [][]byte{row(tagLen), make([]byte, tagLen), bytes.Repeat([]byte{0xff}, tagLen), full[headLen:][:tagLen], full[len(full)-tagLen:]}
			for _, box := range others {
				h.refuses(key, context, put(empty, box), api.ErrAuth)
				h.refuses(key, context, put(empty, box, []byte{0x55}), api.ErrAuth) // a box of one byte
			}
			again := h.seal(key, prefixOf(2), context, nil, size)
			h.refuses(key, context, put(empty, again[headLen:]), api.ErrAuth)
			h.opens(key, context, put(again, again[headLen:]), nil)
			h.opens(key, context, empty, []byte{})
		}
		for _, none := range [][]byte{nil, {}, {0}, {1}, bytes.Repeat([]byte{1}, headLen-1)} {
			h.refuses(key, nil, none, api.ErrFormat)
		}
		h.counts()
	})
}

// chunkBox: a box sealed as a layer's chunk of a number, right or not.
func chunkBox(c crypt.Crypt, key, head, context, text []byte, number uint32, last bool) []byte {
	box, _ := c.Seal(key, written(nonce{[prefixLen]byte(head[1:]), number, last}), slices.Concat(head[:headLen], context), text)
	return box
}

// P17.2: a last box of just 16 bytes that isn't the only one, of fewer, and of none: ErrFormat, were it sealed as the last chunk.
func TestOpenOfAnEmptyLastChunk(t *testing.T) {
	withBoth(t, func(h *held) {
		key, context := keyOf(1), []byte("ctx")
		for _, size := range []int{1, 2, 10, 16, 17, 64} {
			head := written(begin{1, [prefixLen]byte(prefixOf(3)), uint32(size)})
			for chunks := 1; chunks < 5; chunks++ {
				var boxes [][]byte
				for i := range chunks {
					boxes = append(boxes, chunkBox(h.c, key, head, context, row(size), uint32(i), false))
				}
				end := chunkBox(h.c, key, head, context, nil, uint32(chunks), true)
				for n := range tagLen {
					if n > 0 {
						h.refuses(key, context, put(head, append(boxes, end[:n])...), api.ErrFormat)
					}
				}
				h.refuses(key, context, put(head, append(boxes, end)...), api.ErrFormat)
				h.refuses(key, context, put(head, boxes...), api.ErrAuth)
				one := chunkBox(h.c, key, head, context, []byte{7}, uint32(chunks), true)
				h.opens(key, context, put(head, append(boxes, one)...), append(bytes.Repeat(row(size), chunks), 7))
			}
		}
	})
}

// P17.2: a chunk that was sealed as the last one, or wasn't, or with another number, is opened only where it is so.
func TestOpenAsksForEachChunksPlace(t *testing.T) {
	withBoth(t, func(h *held) {
		key, context := keyOf(1), []byte("ctx")
		head := written(begin{1, [prefixLen]byte(prefixOf(4)), 10})
		for a := range uint32(4) {
			for b := range uint32(4) {
				for kinds := range 4 {
					first := chunkBox(h.c, key, head, context, row(10), a, kinds&1 > 0)
					second := chunkBox(h.c, key, head, context, other(6), b, kinds&2 > 0)
					if a == 0 && b == 1 && kinds == 2 {
						h.opens(key, context, put(head, first, second), slices.Concat(row(10), other(6)))
					} else {
						h.refuses(key, context, put(head, first, second), api.ErrAuth)
					}
					if a == 0 && kinds&1 > 0 {
						h.opens(key, context, put(head, first), row(10))
					} else {
						h.refuses(key, context, put(head, first), api.ErrAuth)
					}
				}
			}
		}
		for _, number := range []uint32{1 << 8, 1 << 16, 1 << 24, 1 << 31, 1<<32 - 1} {
			h.refuses(key, context, put(head, chunkBox(h.c, key, head, context, row(10), number, true)), api.ErrAuth)
		}
		for _, end := range []byte{2, 0x80, 0xff} { // it says neither that this is the last one nor that it isn't
			box, _ := h.c.Seal(key, slices.Concat(head[1:8], make([]byte, 4), []byte{end}), slices.Concat(head, context), row(3))
			h.refuses(key, context, put(head, box), api.ErrAuth)
		}
	})
}

// P17.2: which code comes where more than one thing is wrong: ErrArg, ErrFormat, ErrAuth.
func TestOpenWhichCode(t *testing.T) {
	withBoth(t, func(h *held) {
		key, prefix, context := keyOf(1), prefixOf(1), []byte("ctx")
		b := h.seal(key, prefix, context, row(25), 10)
		for _, bit := range []int{8, 8 * headLen, 8*headLen + 300, 8*len(b) - 1} {
			x := turned(b, bit) // a chunk that isn't opened
			h.refuses(key, context, x, api.ErrAuth)
			h.refuses(key, context, x[:headLen+26+16], api.ErrFormat) // and a last box that may not be
			h.refuses(key, context, append(x, make([]byte, 16)...), api.ErrFormat)
			h.refuses(key, context, withSize(x, 0), api.ErrFormat)              // and a size
			h.refuses(key, context, append([]byte{2}, x[1:]...), api.ErrFormat) // and no head
			for _, all := range [][]byte{x, x[:headLen+26+16], withSize(x, 65537), x[:3], nil} {
				h.refuses(key[:31], context, all, api.ErrArg)
			}
		}
		for _, other := range [][]byte{nil, []byte("other")} {
			h.refuses(keyOf(2), other, b[:headLen+26+16], api.ErrFormat)
			h.refuses(keyOf(2), other, b[:headLen+26+17], api.ErrAuth)
			h.refuses(keyOf(2), other, withSize(b, 65537), api.ErrFormat)
		}
	})
}

// P17.2: what one book sealed another one doesn't open; the real crypt needs to remember nothing.
func TestOpenWithAnotherCrypt(t *testing.T) {
	for _, n := range []int{0, 1, 10, 25} {
		key, prefix := keyOf(1), prefixOf(1)
		real, _ := sealed(t, crypt.Real(), key, prefix, nil, row(n), 10)
		if got, code := opened(t, crypt.Real(), key, nil, real); code != api.OK || !bytes.Equal(got, row(n)) {
			t.Errorf("%d bytes: % x, code %d", n, got, code)
		}
		book := crypt.Book()
		numbers, _ := sealed(t, book, key, prefix, nil, row(n), 10)
		for _, c := range []crypt.Crypt{crypt.Book(), crypt.Real()} {
			if got, code := opened(t, c, key, nil, numbers); code != api.ErrAuth || len(got) > 0 {
				t.Errorf("%d bytes: % x, code %d", n, got, code)
			}
		}
		if got, code := opened(t, book, key, nil, real); code != api.ErrAuth || len(got) > 0 {
			t.Errorf("%d bytes: % x, code %d", n, got, code)
		}
	}
}
