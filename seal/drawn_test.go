package seal_test

import (
	"bytes"
	"encoding/binary"
	"math"
	"math/rand"
	"slices"
	"testing"

	"orlop/api"
	"orlop/crypt"
	"orlop/seal"
)

// drawer draws layers and bytes, the same each time.
type drawer struct{ *rand.Rand }

func draws(seed int64) drawer { return drawer{rand.New(rand.NewSource(seed))} }

func oneOf[T any](d drawer, list ...T) T { return list[d.Intn(len(list))] }

func (d drawer) bytes(n int) []byte {
	b := make([]byte, n)
	d.Read(b)
	return b
}

func (d drawer) size() int {
	return oneOf(d, 1, 2, 3, 10, 16, 17, 64, 256, 65535, 65536, 1+d.Intn(30), 1+d.Intn(maxSize))
}

// many: how many bytes a layer has: some chunks, and some bytes more or fewer.
func (d drawer) many(size int) int {
	most := 5
	if size > 1000 {
		most = 1
	}
	return max(oneOf(d, d.Intn(100), d.Intn(most+1)*size, d.Intn(most+1)*size+1, d.Intn(most+1)*size-1, d.Intn(most*size+1)), 0)
}

// layered: a drawn layer, sealed with a prefix that no other one has.
func (d drawer) layered(h *held, number int) layered {
	h.t.Helper()
	size := d.size()
	prefix := binary.BigEndian.AppendUint32(d.bytes(3), uint32(number))
	return h.layered(keyOf(int64(d.Intn(3))), prefix, oneOf(d, contexts...), d.bytes(d.many(size)), size)
}

// changed: a sealed layer with some changes, some of them parts of others.
func (d drawer) changed(b []byte, all []layered) []byte {
	other := oneOf(d, all...).sealed
	at, from := d.Intn(len(b)+1), d.Intn(len(other)+1)
	end := min(len(b), at+1+d.Intn(20))
	switch d.Intn(9) {
	case 0:
		return b[:at]
	case 1:
		return slices.Concat(b[:at], b[end:])
	case 2:
		return slices.Concat(b[:at], d.bytes(d.Intn(20)), b[at:])
	case 3:
		if len(b) > 0 {
			return turned(b, d.Intn(8*len(b)))
		}
	case 4:
		if len(b) >= headLen {
			return withSize(b, oneOf(d, 0, 1, 10, 16, 65536, 65537, 1<<32-1, uint32(d.size())))
		}
	case 5:
		return slices.Concat(b[:at], other[from:])
	case 6:
		return slices.Concat(other[:headLen], b[min(headLen, len(b)):])
	}
	return d.rearranged(b, other)
}

// rearranged: boxes of a sealed layer, and of another one, in some order.
func (d drawer) rearranged(b, other []byte) []byte {
	if len(b) < headLen || binary.BigEndian.Uint32(b[8:])-1 >= maxSize {
		return other
	}
	boxes := boxesOf(b)
	if d.Intn(2) == 0 {
		boxes = append(boxes, boxesOf(other)...)
	}
	d.Shuffle(len(boxes), func(i, j int) { boxes[i], boxes[j] = boxes[j], boxes[i] })
	return put(b, boxes[:d.Intn(len(boxes)+1)]...)
}

// P17.1 to P17.3: scripts of layers that are sealed, and of such with changes that are opened: what is opened is a layer that was sealed with this key and context, and these very bytes.
func TestDrawnScripts(t *testing.T) {
	withBoth(t, func(h *held) {
		codes := map[api.Code]int{}
		for seed := range int64(60) {
			d := draws(seed)
			all := []layered{d.layered(h, 0)}
			for i := range 60 {
				if d.Intn(4) == 0 {
					all = append(all, d.layered(h, i+1))
				}
				l := oneOf(d, all...)
				key, context, b := l.key, l.context, l.sealed
				for range d.Intn(3) {
					b = d.changed(b, all)
				}
				if d.Intn(8) == 0 {
					key, context = keyOf(int64(d.Intn(4))), oneOf(d, contexts...)
				}
				if d.Intn(20) == 0 {
					key = key[:d.Intn(keyLen)]
				}
				was := slices.IndexFunc(all, func(x layered) bool {
					return bytes.Equal(x.key, key) && bytes.Equal(x.context, context) && bytes.Equal(x.sealed, b)
				})
				code := h.open(key, context, b)
				codes[code]++
				if code == api.OK != (was >= 0) {
					h.t.Fatalf("% x, opened: code %d; it was sealed so: %v", few(b), code, was >= 0)
				}
				if was >= 0 {
					h.opens(key, context, b, all[was].layer)
				}
			}
		}
		if codes[api.OK] < 800 || codes[api.ErrAuth] < 700 || codes[api.ErrFormat] < 300 || codes[api.ErrArg] < 50 {
			h.t.Errorf("codes: %v", codes)
		}
		h.counts()
	})
}

// P17.2: drawn bytes, with a head and without one: never a layer.
func TestDrawnBytes(t *testing.T) {
	withBoth(t, func(h *held) {
		d := draws(1)
		h.seal(keyOf(1), prefixOf(1), nil, row(30), 10)
		codes := map[api.Code]int{}
		for range 20000 {
			size := oneOf(d, 0, 1, 2, 10, 16, 20, 40, 90, 256, 65536, 65537, d.Uint32()>>d.Intn(32))
			b := slices.Concat([]byte{oneOf[byte](d, 0, 1, 1, 1, 1, 1, 1, 1, 2, 255)}, d.bytes(prefixLen), binary.BigEndian.AppendUint32(nil, size), d.bytes(d.Intn(100)))
			if d.Intn(10) == 0 {
				b = b[:d.Intn(len(b)+1)]
			}
			code := h.open(keyOf(1), nil, b)
			codes[code]++
			if code != api.ErrAuth && code != api.ErrFormat {
				h.t.Fatalf("% x: code %d", b, code)
			}
		}
		if codes[api.ErrAuth] < 4000 || codes[api.ErrFormat] < 4000 {
			h.t.Errorf("codes: %v", codes)
		}
		h.counts()
	})
}

// P17.1: drawn arguments of Seal, right ones and wrong ones: what is refused changes nothing.
func TestDrawnSeals(t *testing.T) {
	withBoth(t, func(h *held) {
		d := draws(2)
		refused := 0
		for range 3000 {
			size := oneOf(d, d.size(), d.size(), oneOf(d, sizes...), int(d.Uint64())>>d.Intn(64))
			key, prefix := d.bytes(oneOf(d, keyLen, keyLen, keyLen, d.Intn(70))), d.bytes(oneOf(d, prefixLen, prefixLen, prefixLen, d.Intn(20)))
			layer := d.bytes(d.many(max(min(size, 200), 1)))
			b := h.seal(key, prefix, oneOf(d, contexts...), layer, size)
			if len(b) == 0 {
				refused++
			}
			if n := d.Intn(1<<31) >> d.Intn(32); seal.Length(n, size) != lengthBy(n, size) {
				h.t.Fatalf("Length(%d, %d): %d", n, size, seal.Length(n, size))
			}
		}
		if refused < 500 || refused > 2500 {
			h.t.Errorf("%d are refused", refused)
		}
		h.counts()
	})
}

// No call panics, whatever it was handed.
func TestNoCallPanics(t *testing.T) {
	d := draws(3)
	rows := func() []byte {
		return oneOf(d, nil, []byte{}, d.bytes(prefixLen), d.bytes(keyLen), d.bytes(d.Intn(100)), bytes.Repeat([]byte{1}, d.Intn(40)), slices.Concat([]byte{1}, d.bytes(7), make([]byte, d.Intn(60))))
	}
	for range 20000 {
		for _, c := range []crypt.Crypt{crypt.Real(), crypt.Book()} {
			n := oneOf(d, sizes...)
			m := oneOf(d, sizes...)
			if b, code := seal.Seal(c, rows(), rows(), rows(), rows(), n); code != api.OK && (code != api.ErrArg || len(b) > 0) {
				t.Fatalf("Seal: % x, code %d", b, code)
			}
			if b, code := seal.Open(c, rows(), rows(), rows()); code == api.OK || len(b) > 0 {
				t.Fatalf("Open: % x, code %d", b, code)
			}
			if got := seal.Length(n, m); got < 0 || got > 17*math.MaxInt32+headLen {
				t.Fatalf("Length(%d, %d): %d", n, m, got)
			}
		}
	}
}
