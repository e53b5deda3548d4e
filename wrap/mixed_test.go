package wrap_test

import (
	"bytes"
	"slices"
	"testing"

	"orlop/api"
)

// unwraps: that a packet, be it put together of others' parts, tells the key of the one that was wrapped with these very bytes, for this scalar, in this context; and no key, if none was.
func (h *held) unwraps(all []wrapping, own, b, context []byte) api.Code {
	h.t.Helper()
	was := slices.IndexFunc(all, func(w wrapping) bool {
		return bytes.Equal(w.packet, b) && bytes.Equal(w.context, context) && bytes.Equal(pointOf(w.own), pointOf(own))
	})
	got, code := h.unwrap(own, b, context)
	if (code == api.OK) != (was >= 0) {
		h.t.Fatalf("%x, unwrapped by %x: %x, code %d; it was wrapped so: %v", b, own, got, code, was >= 0)
	}
	if was >= 0 && !bytes.Equal(got, all[was].key) {
		h.t.Fatalf("%x, unwrapped by %x: %x, not %x", b, own, got, all[was].key)
	}
	return code
}

// mixes: all packets that are put together of these packets' points, onces and boxes.
func mixes(all []wrapping) [][]byte {
	var mixed [][]byte
	for _, a := range all {
		for _, b := range all {
			for _, c := range all {
				mixed = append(mixed, slices.Concat(a.packet[:onceAt], b.packet[onceAt:boxAt], c.packet[boxAt:]))
			}
		}
	}
	return mixed
}

// P18.2, P18.3: packets whose parts come from two or three, for two scalars, with two onces, two keys and two contexts, each by each, in each context: what was wrapped with these very bytes is unwrapped, nothing else.
func TestPartsOfOthers(t *testing.T) {
	withBoth(t, func(h *held) {
		var all []wrapping
		for i := range int64(16) {
			all = append(all, h.wrapping(i&1, i>>1&1, i>>2&1, [][]byte{[]byte("layer 0"), []byte("layer 1")}[i>>3&1]))
		}
		seen := map[string]bool{}
		codes := map[api.Code]int{}
		for _, b := range mixes(all) {
			if seen[string(b)] {
				continue
			}
			seen[string(b)] = true
			for own := range int64(2) {
				for _, context := range []string{"layer 0", "layer 1"} {
					codes[h.unwraps(all, scalar(own), b, []byte(context))]++
				}
			}
			h.refuses(scalar(2), b, []byte("layer 0"), api.ErrNoRecipient)
			h.refuses(once(0), b, []byte("layer 0"), api.ErrNoRecipient)
		}
		if len(seen) != 4*16 || codes[api.OK] != 16 || codes[api.ErrNoRecipient] != 4*32 || codes[api.ErrAuth] != 4*32-16 {
			h.t.Errorf("%d packets, codes %v", len(seen), codes)
		}
		h.counts()
	})
}

// P18.2: the point and the once changed about, doubled, and put where the box is, and some of the box elsewhere in it: ErrAuth for whom it says.
func TestPartsElsewhere(t *testing.T) {
	withBoth(t, func(h *held) {
		h.wrapping(9, 9, 9, nil) // a book's box 0, all of it alike
		for i, context := range [][]byte{nil, []byte("ctx"), other(40)} {
			w := h.wrapping(int64(i), int64(i), int64(i), context)
			mark, point, one, box := w.packet[:pointAt], w.packet[pointAt:onceAt], w.packet[onceAt:boxAt], w.packet[boxAt:]
			h.refuses(w.one, slices.Concat(mark, one, point, box), context, api.ErrAuth)
			h.refuses(w.own, slices.Concat(mark, one, point, box), context, api.ErrNoRecipient)
			h.refuses(w.own, slices.Concat(mark, point, point, box), context, api.ErrAuth)
			h.refuses(w.one, slices.Concat(mark, one, one, box), context, api.ErrAuth)
			h.refuses(w.own, slices.Concat(mark, point, one, box[3:], box[:3]), context, api.ErrAuth)
			h.refuses(w.own, slices.Concat(mark, point, one, point, one[:16]), context, api.ErrAuth)
			h.refuses(w.own, slices.Concat(mark, point, box[:keyLen], one, box[keyLen:]), context, api.ErrAuth)
			h.refuses(w.own, slices.Concat(mark, point, box, one), context, api.ErrAuth)
			h.opens(w.own, slices.Concat(mark, point, one, box), context, w.key)
		}
		h.counts()
	})
}

// P18.3: one key wrapped for two points, for one point twice, with one once and with two, and in two contexts: each is unwrapped by whom it is for, in its own context, by nobody else.
func TestOneKeyForSome(t *testing.T) {
	withBoth(t, func(h *held) {
		a, b := []byte("layer 0"), []byte("layer 1")
		all := []wrapping{
			h.wrapping(1, 1, 1, a), h.wrapping(2, 2, 1, a), h.wrapping(1, 2, 1, a), // for two, with two onces and with one
			h.wrapping(1, 1, 1, a), h.wrapping(2, 1, 1, a), // for the first once more, with the same once and with another
			h.wrapping(1, 1, 1, b), h.wrapping(2, 2, 1, b), // in another context
			h.wrapping(1, 1, 2, a), h.wrapping(3, 1, 2, b), // another key
		}
		for _, w := range all {
			for own := range int64(4) {
				for _, context := range [][]byte{a, b, nil} {
					h.unwraps(all, scalar(own), w.packet, context)
				}
			}
			h.opens(w.own, w.packet, w.context, w.key)
		}
		unlike := map[string]bool{}
		for _, w := range all {
			unlike[string(w.packet)] = true
		}
		if want := map[bool]int{true: 9, false: 8}[h.isBook]; len(unlike) != want {
			h.t.Errorf("%d unlike packets, not %d", len(unlike), want)
		}
		h.counts()
	})
}

// P18.3: of many scalars each unwraps what is for it, and no other one.
func TestEachUnwrapsItsOwn(t *testing.T) {
	withBoth(t, func(h *held) {
		var all []wrapping
		for i := range int64(20) {
			all = append(all, h.wrapping(i/2, i, i/3, contexts[i%5]))
		}
		for i, w := range all {
			for own := range int64(20) {
				code := h.unwraps(all, scalar(own), w.packet, w.context)
				if (code == api.OK) != (own == int64(i)) {
					h.t.Errorf("packet %d by %d: code %d", i, own, code)
				}
			}
		}
		h.counts()
	})
}
