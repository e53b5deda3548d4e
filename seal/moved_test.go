package seal_test

import (
	"bytes"
	"fmt"
	"slices"
	"testing"

	"orlop/api"
	"orlop/crypt"
	"orlop/seal"
)

// layered is a layer that was sealed, and with what.
type layered struct {
	key, prefix, context, layer []byte
	size                        int
	sealed                      []byte
}

func (h *held) layered(key, prefix, context, layer []byte, size int) layered {
	h.t.Helper()
	return layered{key, prefix, context, layer, size, h.seal(key, prefix, context, layer, size)}
}

// refusesEach: that none of these is opened as a layer, but the layer itself, if it is among them; ErrAuth of those that may be cut, else ErrFormat.
func (h *held) refusesEach(l layered, all [][][]byte, head []byte) {
	h.t.Helper()
	for _, boxes := range all {
		b := put(head, boxes...)
		if bytes.Equal(b, l.sealed) {
			continue
		}
		want := api.ErrAuth
		if rest := len(b) - headLen; rest < tagLen || rest > l.size+tagLen && rest%(l.size+tagLen) > 0 && rest%(l.size+tagLen) < tagLen+1 {
			want = api.ErrFormat
		}
		h.refuses(l.key, l.context, b, want)
	}
}

// leftOut, doubled, exchanged and moved: the boxes with each of these changes.
func leftOut(boxes [][]byte) (all [][][]byte) {
	for i := range boxes {
		for j := i; j < len(boxes); j++ {
			all = append(all, slices.Delete(slices.Clone(boxes), i, j+1))
		}
	}
	return all
}

func doubled(boxes [][]byte) (all [][][]byte) {
	for i := range boxes {
		for j := range len(boxes) + 1 {
			all = append(all, slices.Insert(slices.Clone(boxes), j, boxes[i]))
			all = append(all, slices.Insert(slices.Clone(boxes), j, boxes[i], boxes[i]))
		}
		all = append(all, slices.Concat(boxes[:i+1], boxes), slices.Concat(boxes, boxes[i:]))
	}
	return all
}

func exchanged(boxes [][]byte) (all [][][]byte) {
	for i := range boxes {
		for j := range i {
			changed := slices.Clone(boxes)
			changed[i], changed[j] = changed[j], changed[i]
			all = append(all, changed)
		}
	}
	return all
}

func moved(boxes [][]byte) (all [][][]byte) {
	for i := range boxes {
		rest := slices.Delete(slices.Clone(boxes), i, i+1)
		for j := range len(rest) + 1 {
			all = append(all, slices.Insert(slices.Clone(rest), j, boxes[i]))
		}
	}
	reversed := slices.Clone(boxes)
	slices.Reverse(reversed)
	return append(all, reversed, slices.Concat(boxes[1:], boxes[:1]))
}

// replaced: the boxes, each of them another layer's, of any place.
func replaced(boxes, others [][]byte) (all [][][]byte) {
	for i := range boxes {
		for j := range others {
			changed := slices.Clone(boxes)
			changed[i] = others[j]
			all = append(all, changed, slices.Concat(boxes[:i], others[j:]), slices.Concat(others[:j+1], boxes[i:]))
		}
	}
	return append(all, others)
}

// P17.3: a chunk that is left out, doubled, changed for another one, or put elsewhere; of all chunks alike, too.
func TestChunksMoved(t *testing.T) {
	withBoth(t, func(h *held) {
		for i, size := range []int{1, 10, 17} {
			for _, n := range []int{1, size, size + 1, 2 * size, 3*size - size/2, 3 * size, 4*size + 1, 5*size - 1, 5 * size} {
				for _, layer := range [][]byte{row(n), make([]byte, n)} {
					l := h.layered(keyOf(int64(i)), prefixOf(int64(n)), []byte("ctx"), layer, size)
					boxes := boxesOf(l.sealed)
					for _, all := range [][][][]byte{leftOut(boxes), doubled(boxes), exchanged(boxes), moved(boxes)} {
						h.refusesEach(l, all, l.sealed)
					}
					h.opens(l.key, l.context, put(l.sealed, boxes...), layer)
				}
			}
		}
		h.counts()
	})
}

// P17.3: a chunk of another layer, which was sealed with another key, prefix, context or size, in the place of each: be it of the same bytes, too; and the head of the other one.
func TestChunksOfAnotherLayer(t *testing.T) {
	withBoth(t, func(h *held) {
		for n := range 45 {
			context := []byte("layer 0")
			l := h.layered(keyOf(1), prefixOf(1), context, row(n), 10)
			boxes := boxesOf(l.sealed)
			for _, layer := range [][]byte{row(n), other(n), row(10), row(25)} {
				for _, x := range []layered{
					h.layered(keyOf(2), prefixOf(1), context, layer, 10), h.layered(keyOf(1), prefixOf(2), context, layer, 10), h.layered(keyOf(1), prefixOf(1), []byte("layer 1"), layer, 10),
					h.layered(keyOf(1), prefixOf(1), context, layer, 9), h.layered(keyOf(1), prefixOf(1), context, layer, 11), h.layered(keyOf(2), prefixOf(2), nil, layer, 64),
				} {
					others := boxesOf(x.sealed)
					h.refusesEach(l, replaced(boxes, others), l.sealed)
					if !bytes.Equal(x.sealed[:headLen], l.sealed[:headLen]) {
						h.refusesBoth(l.key, l.context, put(x.sealed, boxes...))
						h.refusesBoth(x.key, x.context, put(x.sealed, boxes...))
					}
					h.refuses(l.key, []byte("layer 2"), x.sealed, api.ErrAuth)
					h.opens(x.key, x.context, x.sealed, layer)
				}
			}
			h.opens(l.key, l.context, l.sealed, row(n))
		}
		h.counts()
	})
}

// P17.3: two layers of one length are as long sealed, as Length says; with books, they are the same bytes, whatever key and context they have.
func TestLayersOfOneLength(t *testing.T) {
	for _, size := range []int{1, 2, 10, 16, 64, 255, 65536} {
		for _, n := range []int{0, 1, size - 1, size, size + 1, 100, 300, 1000} {
			a, b := crypt.Book(), crypt.Book()
			for i, layer := range [][]byte{other(n), make([]byte, n), bytes.Repeat([]byte{0xff}, n)} {
				seed := int64(i)
				x, code := sealed(t, a, keyOf(1), prefixOf(seed), []byte("ctx"), row(n), size)
				y, other := sealed(t, b, keyOf(seed), prefixOf(seed), row(i), layer, size)
				if code != api.OK || other != api.OK || !bytes.Equal(x, y) || len(x) != seal.Length(n, size) {
					t.Errorf("%d bytes in chunks of %d: % x, code %d, and % x, code %d", n, size, few(x), code, few(y), other)
				}
				x, code = sealed(t, crypt.Real(), keyOf(1), prefixOf(1), []byte("ctx"), row(n), size)
				y, other = sealed(t, crypt.Real(), keyOf(seed), prefixOf(seed), row(i), layer, size)
				if code != api.OK || other != api.OK || len(x) != len(y) || len(x) != seal.Length(n, size) {
					t.Errorf("%d bytes in chunks of %d: %d and %d bytes", n, size, len(x), len(y))
				}
			}
		}
	}
}

// P17.1, P17.3: a layer sealed twice is the same with the real crypt; a book's boxes have other numbers, each is opened.
func TestSealedTwice(t *testing.T) {
	withBoth(t, func(h *held) {
		seen := map[string]bool{}
		for range 5 {
			for _, n := range []int{0, 1, 25, 30} {
				b := h.seal(keyOf(1), prefixOf(1), []byte("ctx"), row(n), 10)
				seen[fmt.Sprint(n, b)] = true
				h.opens(keyOf(1), []byte("ctx"), b, row(n))
			}
		}
		_, isBook := seen[fmt.Sprint(0, put(written(begin{1, [prefixLen]byte(prefixOf(1)), 10}), make([]byte, tagLen)))]
		if isBook && len(seen) != 20 || !isBook && len(seen) != 4 {
			h.t.Errorf("%d unlike layers", len(seen))
		}
		h.counts()
	})
}
