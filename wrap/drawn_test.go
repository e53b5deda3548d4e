package wrap_test

import (
	"bytes"
	"math/rand"
	"slices"
	"testing"

	"orlop/api"
	"orlop/crypt"
	"orlop/wrap"
)

// drawer draws scalars, points, packets and bytes, the same each time.
type drawer struct{ *rand.Rand }

func draws(seed int64) drawer { return drawer{rand.New(rand.NewSource(seed))} }

func oneOf[T any](d drawer, list ...T) T { return list[d.Intn(len(list))] }

func (d drawer) bytes(n int) []byte {
	b := make([]byte, n)
	d.Read(b)
	return b
}

// wrapping: of drawn parts, some of which others have too.
func (d drawer) wrapping(h *held) wrapping {
	h.t.Helper()
	one, own, key, context := once(int64(d.Intn(4))), scalar(int64(d.Intn(3))), keyOf(int64(d.Intn(3))), oneOf(d, contexts[:8]...)
	if d.Intn(4) == 0 {
		one, own, key, context = d.bytes(keyLen), d.bytes(keyLen), d.bytes(keyLen), d.bytes(d.Intn(100))
	}
	return wrapping{one, own, key, context, h.wrap(one, pointOf(own), key, context)}
}

// changed: a packet with a change, perhaps a part of another one's.
func (d drawer) changed(b []byte, all []wrapping) []byte {
	another := oneOf(d, all...).packet
	at := d.Intn(len(b) + 1)
	switch d.Intn(8) {
	case 0:
		return b[:at]
	case 1:
		return slices.Concat(b[:at], d.bytes(d.Intn(4)), b[at:])
	case 2, 3:
		if len(b) > 0 {
			return turned(b, d.Intn(8*len(b)))
		}
	}
	if len(b) != packetLen {
		return another
	}
	switch d.Intn(4) {
	case 0:
		return slices.Concat(another[:onceAt], b[onceAt:])
	case 1:
		return slices.Concat(b[:onceAt], another[onceAt:boxAt], b[boxAt:])
	case 2:
		return slices.Concat(b[:onceAt], oneOf(d, ofLowOrder()...), b[boxAt:])
	}
	return slices.Concat(b[:boxAt], another[boxAt:])
}

// P18.1 to P18.3: scripts of keys that are wrapped, and of packets, some of them with changes, that are unwrapped: what is told is a key that was wrapped for this scalar, in this context, with these very bytes.
func TestDrawnScripts(t *testing.T) {
	withBoth(t, func(h *held) {
		codes := map[api.Code]int{}
		for seed := range int64(30) {
			d := draws(seed)
			all := []wrapping{d.wrapping(h)}
			for range 80 {
				if d.Intn(4) == 0 {
					all = append(all, d.wrapping(h))
				}
				w := oneOf(d, all...)
				own, context, b := w.own, w.context, w.packet
				for range oneOf(d, 0, 0, 1, 1, 2) {
					b = d.changed(b, all)
				}
				switch d.Intn(10) {
				case 0:
					own = oneOf(d, scalar(int64(d.Intn(5))), w.one, d.bytes(keyLen), oneOf(d, alike(own)...))
				case 1:
					context = oneOf(d, contexts[:8]...)
				case 2:
					own = d.bytes(d.Intn(70))
				}
				if len(own) != keyLen {
					h.refuses(own, b, context, api.ErrArg)
					codes[api.ErrArg]++
					continue
				}
				codes[h.unwraps(all, own, b, context)]++
			}
		}
		if codes[api.OK] < 600 || codes[api.ErrAuth] < 250 || codes[api.ErrFormat] < 200 || codes[api.ErrNoRecipient] < 150 || codes[api.ErrLowOrder] < 50 || codes[api.ErrArg] < 100 {
			h.t.Errorf("codes: %v", codes)
		}
		h.counts()
	})
}

// P18.1: drawn arguments of Wrap, right ones and wrong ones: what is refused changes nothing.
func TestDrawnWraps(t *testing.T) {
	withBoth(t, func(h *held) {
		d := draws(1)
		codes := map[api.Code]int{}
		rowOf := func() []byte { return d.bytes(oneOf(d, keyLen, keyLen, keyLen, keyLen, keyLen, d.Intn(70))) }
		for range 2000 {
			point := oneOf(d, rowOf(), oneOf(d, ofLowOrder()...), pointOf(d.bytes(keyLen)))
			_, code := h.tryWrap(rowOf(), point, rowOf(), oneOf(d, contexts[:8]...))
			codes[code]++
		}
		if codes[api.OK] < 700 || codes[api.ErrArg] < 400 || codes[api.ErrLowOrder] < 300 {
			h.t.Errorf("codes: %v", codes)
		}
		h.counts()
	})
}

// P18.2: drawn bytes, with a scalar's point in their place and without it: never a key.
func TestDrawnBytes(t *testing.T) {
	withBoth(t, func(h *held) {
		d := draws(2)
		own := scalar(1)
		all := []wrapping{h.wrapping(1, 1, 1, nil)}
		codes := map[api.Code]int{}
		for range 3000 {
			b := d.bytes(oneOf(d, packetLen, packetLen, packetLen, packetLen-1, packetLen+1, 1+d.Intn(300)))
			b[0] = oneOf[byte](d, 1, 1, 1, 1, 0, b[0])
			if d.Intn(3) > 0 && len(b) >= boxAt {
				copy(b[pointAt:], pointOf(own))
			}
			codes[h.unwraps(all, own, b, nil)]++
		}
		if codes[api.OK] > 0 || codes[api.ErrAuth] < 300 || codes[api.ErrFormat] < 500 || codes[api.ErrNoRecipient] < 200 {
			h.t.Errorf("codes: %v", codes)
		}
		h.counts()
	})
}

// No call panics, whatever it was handed.
func TestNoCallPanics(t *testing.T) {
	d := draws(3)
	rows := func() []byte {
		return oneOf(d, nil, []byte{}, d.bytes(keyLen), make([]byte, keyLen), d.bytes(d.Intn(200)), bytes.Repeat([]byte{1}, packetLen), append([]byte{1}, d.bytes(packetLen-1)...), make([]byte, d.Intn(200)))
	}
	for range 5000 {
		for _, c := range []crypt.Crypt{crypt.Real(), crypt.Book()} {
			if b, code := wrap.Wrap(c, rows(), rows(), rows(), rows()); code == api.OK && len(b) != packetLen || code != api.OK && (len(b) > 0 || code != api.ErrArg && code != api.ErrLowOrder) {
				t.Fatalf("Wrap: %x, code %d", b, code)
			}
			if b, code := wrap.Unwrap(c, rows(), rows(), rows()); len(b) > 0 || code != api.ErrArg && code != api.ErrFormat && code != api.ErrNoRecipient {
				t.Fatalf("Unwrap: %x, code %d", b, code)
			}
			if b, code := wrap.For(rows()); code == api.OK && len(b) != keyLen || code != api.OK && (len(b) > 0 || code != api.ErrFormat) {
				t.Fatalf("For: %x, code %d", b, code)
			}
		}
	}
}
