package wrap_test

import (
	"bytes"
	"slices"
	"testing"

	"orlop/api"
	"orlop/crypt"
	"orlop/wrap"
)

// withPackets: a test of some packets, which are unwrapped behind it.
func withPackets(t *testing.T, test func(h *held, w wrapping)) {
	withBoth(t, func(h *held) {
		for i, context := range [][]byte{nil, []byte("ctx"), other(40)} {
			w := h.wrapping(int64(i), int64(i), int64(i), context)
			test(h, w)
			h.opens(w.own, w.packet, w.context, w.key)
		}
		h.counts()
	})
}

// wrapping is a packet, and of what it was made.
type wrapping struct{ one, own, key, context, packet []byte }

// wrapping: of the once, the scalar, and the key of these numbers.
func (h *held) wrapping(one, own, key int64, context []byte) wrapping {
	h.t.Helper()
	return wrapping{once(one), scalar(own), keyOf(key), context, h.wrap(once(one), pointOf(scalar(own)), keyOf(key), context)}
}

// P18.2: a scalar that hasn't 32 bytes: ErrArg, ahead of all else that is wrong.
func TestUnwrapByScalarsOfOtherLengths(t *testing.T) {
	withPackets(t, func(h *held, w wrapping) {
		wrong := [][]byte{w.packet, nil, {}, {1}, w.packet[1:], turned(w.packet, 0), turned(w.packet, 9), turned(w.packet, 8*packetLen-1), append(bytes.Clone(w.packet), 0), make([]byte, packetLen)}
		for _, n := range lengths {
			if n == keyLen {
				continue
			}
			own := append(bytes.Clone(w.own), row(1<<17)...)[:n]
			for _, b := range wrong {
				h.refuses(own, b, w.context, api.ErrArg)
			}
		}
		for n := range 200 {
			if n != keyLen {
				h.refuses(row(n), w.packet, w.context, api.ErrArg)
			}
		}
		h.refuses(nil, w.packet, w.context, api.ErrArg)
		h.refuses(nil, nil, nil, api.ErrArg)
	})
}

// P18.2: another scalar, the one that was used once, and the right one with a bit turned: ErrNoRecipient.
func TestUnwrapByOthers(t *testing.T) {
	withPackets(t, func(h *held, w wrapping) {
		for _, other := range slices.Concat(rows32(), [][]byte{w.one, w.key, scalar(50), w.packet[pointAt:onceAt], w.packet[onceAt:boxAt], w.packet[boxAt:][:keyLen]}) {
			h.refuses(other, w.packet, w.context, api.ErrNoRecipient)
		}
		for bit := 3; bit < 254; bit += 7 {
			h.refuses(turned(w.own, bit), w.packet, w.context, api.ErrNoRecipient)
		}
	})
}

// P18.2: another context, in one bit or in length: ErrAuth.
func TestUnwrapWithOtherContexts(t *testing.T) {
	withPackets(t, func(h *held, w wrapping) {
		for bit := range min(8*len(w.context), 200) {
			h.refuses(w.own, w.packet, turned(w.context, bit), api.ErrAuth)
		}
		wrong := [][]byte{append(bytes.Clone(w.context), 0), append([]byte{0}, w.context...), append(bytes.Clone(w.context), w.context...), w.packet, []byte("another")}
		if len(w.context) > 0 {
			wrong = append(wrong, nil, []byte{}, w.context[1:], w.context[:len(w.context)-1])
		}
		for _, context := range wrong {
			if !bytes.Equal(context, w.context) {
				h.refuses(w.own, w.packet, context, api.ErrAuth)
			}
		}
	})
}

// turnedCode: what a packet is refused for, if the byte at a place, alone, is another one.
func turnedCode(at int) api.Code {
	switch {
	case at < pointAt:
		return api.ErrFormat
	case at < onceAt:
		return api.ErrNoRecipient
	}
	return api.ErrAuth
}

// P18.2, P18.3: each bit turned, the greatest bit of a point among them, and each byte made another one.
func TestUnwrapTurnedBytes(t *testing.T) {
	withPackets(t, func(h *held, w wrapping) {
		for bit := range 8 * packetLen {
			h.refuses(w.own, turned(w.packet, bit), w.context, turnedCode(bit/8))
		}
		for at := range packetLen {
			for _, b := range []byte{0, 1, 2, 0x7f, 0xff} {
				x := bytes.Clone(w.packet)
				if x[at] = b; b != w.packet[at] {
					h.refuses(w.own, x, w.context, turnedCode(at))
				}
			}
		}
	})
}

// P18.3: with a book, each byte of the first part and of the box made each other one, and of the points every fourth: no key.
func TestUnwrapEachOtherByte(t *testing.T) {
	h := &held{t, crypt.Book(), crypt.Book(), true}
	for i := range int64(5) { // what is turned may be another packet's number
		h.wrapping(1, 1, i, []byte("ctx"))
	}
	w := h.wrapping(2, 1, 1, []byte("ctx"))
	for at := range packetLen {
		for b := range 256 {
			x := bytes.Clone(w.packet)
			isPoint := at >= pointAt && at < boxAt
			if x[at] = byte(b); x[at] != w.packet[at] && (!isPoint || b%4 == at%4) {
				h.refuses(w.own, x, w.context, turnedCode(at))
			}
		}
	}
	h.opens(w.own, w.packet, w.context, w.key)
	h.counts()
}

// P18.2: cut off at each place, at the end and at the beginning, and longer: ErrFormat, by whom and with what context ever.
func TestUnwrapOtherLengths(t *testing.T) {
	withPackets(t, func(h *held, w wrapping) {
		var wrong [][]byte
		for n := range packetLen {
			wrong = append(wrong, w.packet[:n], w.packet[n+1:], slices.Delete(bytes.Clone(w.packet), n, n+1), slices.Insert(bytes.Clone(w.packet), n, 1))
		}
		for _, more := range [][]byte{{0}, {1}, w.packet[:1], w.packet[packetLen-1:], make([]byte, 15), w.packet} {
			wrong = append(wrong, slices.Concat(w.packet, more), slices.Concat(more, w.packet))
		}
		wrong = append(wrong, nil, append(bytes.Clone(w.packet), make([]byte, 256)...), append(bytes.Clone(w.packet), make([]byte, 1<<16)...))
		for _, b := range wrong {
			h.refuses(w.own, b, w.context, api.ErrFormat)
			h.refuses(w.one, b, []byte("another"), api.ErrFormat)
		}
	})
}

// P18.2: of 112, 113 and 114 bytes that aren't a packet's: ErrFormat, but ErrNoRecipient of 113 that begin with 1.
func TestUnwrapBytesAroundAPacketsLength(t *testing.T) {
	withBoth(t, func(h *held) {
		for n := range 3 * packetLen {
			for _, begin := range []byte{0, 1, 2, 0x81, 255} {
				for _, b := range [][]byte{make([]byte, n), bytes.Repeat([]byte{begin}, n), row(n)} {
					if n > 0 {
						b[0] = begin
					}
					want := api.ErrFormat
					if n == packetLen && begin == 1 {
						want = api.ErrNoRecipient
					}
					h.refuses(scalar(1), b, nil, want)
				}
			}
		}
	})
}

// P18.2: any first byte but 1: ErrFormat, by whom and with what context ever; also of For.
func TestUnwrapOtherFirstBytes(t *testing.T) {
	withPackets(t, func(h *held, w wrapping) {
		for begin := range 256 {
			if begin == 1 {
				continue
			}
			b := append([]byte{byte(begin)}, w.packet[1:]...)
			h.refuses(w.own, b, w.context, api.ErrFormat)
			h.refuses(w.one, b, []byte("another"), api.ErrFormat)
			if got, code := wrap.For(b); code != api.ErrFormat || len(got) > 0 {
				h.t.Errorf("begins with %d: %x, code %d", begin, got, code)
			}
		}
	})
}

// lowOnce: a packet for a scalar whose once is of low order, with the box that a secret of bytes 0 would lead to.
func lowOnce(c crypt.Crypt, own, low, key, context []byte) []byte {
	p := packet{Mark: 1, Point: [keyLen]byte(pointOf(own)), Once: [keyLen]byte(low)}
	return p.sealed(c, make([]byte, keyLen), key, context)
}

// P18.2: a packet whose once is of low order: ErrLowOrder, whatever its box is; for another scalar ErrNoRecipient.
func TestUnwrapPointsOfLowOrder(t *testing.T) {
	withPackets(t, func(h *held, w wrapping) {
		for _, low := range ofLowOrder() {
			b := slices.Concat(w.packet[:onceAt], low, w.packet[boxAt:])
			made := lowOnce(h.c, w.own, low, w.key, w.context)
			lowOnce(h.twin, w.own, low, w.key, w.context)
			for _, own := range alike(w.own)[:5] {
				h.refuses(own, b, w.context, api.ErrLowOrder)
				h.refuses(own, made, w.context, api.ErrLowOrder)
				h.refuses(own, made, []byte("another"), api.ErrLowOrder)
				h.refuses(own, turned(made, 8*boxAt), w.context, api.ErrLowOrder)
			}
			h.refuses(w.one, made, w.context, api.ErrNoRecipient)
			h.refuses(w.own, turned(made, 8*pointAt), w.context, api.ErrNoRecipient)
			h.refuses(w.own, turned(made, 0), w.context, api.ErrFormat)
			h.refuses(w.own, made[:packetLen-1], w.context, api.ErrFormat)
			h.refuses(w.own, turned(made, 8*onceAt+77), w.context, api.ErrAuth)
		}
	})
}

// P18.2: a packet for a point of low order is nobody's; For tells the point all the same.
func TestUnwrapForPointsOfLowOrder(t *testing.T) {
	withPackets(t, func(h *held, w wrapping) {
		for _, low := range ofLowOrder() {
			for _, one := range [][]byte{w.packet[onceAt:boxAt], low} {
				b := slices.Concat(w.packet[:pointAt], low, one, w.packet[boxAt:])
				for _, own := range append(rows32(), w.own, w.one) {
					h.refuses(own, b, w.context, api.ErrNoRecipient)
				}
				if got, code := wrap.For(b); code != api.OK || !bytes.Equal(got, low) {
					h.t.Errorf("%x is for %x, code %d", b, got, code)
				}
			}
		}
	})
}

// P18.2: which code comes where several things are wrong, each thing with all that come behind it: ErrArg, ErrFormat, ErrNoRecipient, ErrLowOrder, ErrAuth.
func TestUnwrapWhichCode(t *testing.T) {
	withPackets(t, func(h *held, w wrapping) {
		codes := []api.Code{api.ErrArg, api.ErrFormat, api.ErrNoRecipient, api.ErrLowOrder, api.ErrAuth}
		for set := 1; set < 1<<len(codes); set++ {
			own, b, context := w.own, bytes.Clone(w.packet), w.context
			wrong := func(i int) bool { return set>>i&1 == 1 }
			first := slices.IndexFunc([]int{0, 1, 2, 3, 4}, wrong)
			if wrong(4) {
				context = []byte("another")
			}
			if wrong(3) {
				copy(b[onceAt:boxAt], ofLowOrder()[set%14])
			}
			if wrong(2) {
				copy(b[pointAt:onceAt], pointOf(scalar(50)))
			}
			if wrong(1) {
				b = [][]byte{b[:packetLen-1], slices.Concat(b, b[:1]), turned(b, 1), nil}[set/4%4]
			}
			if wrong(0) {
				own = [][]byte{own[1:], append(bytes.Clone(own), 0), nil}[set%3]
			}
			h.refuses(own, b, context, codes[first])
		}
	})
}

// P18.2: For of right packets, of each beginning, of longer ones, and of any bytes behind a 1: it looks at the length and the first byte alone.
func TestFor(t *testing.T) {
	withPackets(t, func(h *held, w wrapping) {
		got, code := wrap.For(w.packet)
		if code != api.OK || !bytes.Equal(got, pointOf(w.own)) {
			h.t.Errorf("%x is for %x, code %d", w.packet, got, code)
		}
		for n := range packetLen {
			isFor(h.t, w.packet[:n])
			isFor(h.t, w.packet[n:])
			isFor(h.t, append(bytes.Clone(w.packet), row(n)...))
		}
		for bit := range 8 * packetLen {
			isFor(h.t, turned(w.packet, bit))
		}
	})
	isFor(t, nil)
	isFor(t, []byte{})
	for n := range 3 * packetLen {
		for _, begin := range []byte{0, 1, 2, 255} {
			isFor(t, append([]byte{begin}, row(n)...))
			isFor(t, bytes.Repeat([]byte{begin}, n))
		}
	}
}

// P18.2, P18.3: what one book sealed another one doesn't open, nor the real crypt, nor a book what that sealed.
func TestUnwrapWithAnotherCrypt(t *testing.T) {
	own, context := scalar(1), []byte("ctx")
	real, _ := wrapped(t, crypt.Real(), once(1), pointOf(own), keyOf(1), context)
	book := crypt.Book()
	numbered, _ := wrapped(t, book, once(1), pointOf(own), keyOf(1), context)
	if got, code := unwrapped(t, crypt.Real(), own, real, context); code != api.OK || !bytes.Equal(got, keyOf(1)) {
		t.Errorf("%x, code %d", got, code)
	}
	for _, c := range []crypt.Crypt{crypt.Book(), crypt.Real()} {
		if got, code := unwrapped(t, c, own, numbered, context); code != api.ErrAuth || len(got) > 0 {
			t.Errorf("a book's: %x, code %d", got, code)
		}
	}
	if got, code := unwrapped(t, book, own, real, context); code != api.ErrAuth || len(got) > 0 {
		t.Errorf("the real crypt's: %x, code %d", got, code)
	}
	if got, code := unwrapped(t, book, own, numbered, context); code != api.OK || !bytes.Equal(got, keyOf(1)) {
		t.Errorf("%x, code %d", got, code)
	}
}

// P18.1, P18.2: a packet that was put together another way is unwrapped, but one whose box was sealed with another key, salt, info, nonce or row beside.
func TestUnwrapOfPacketsMadeByHand(t *testing.T) {
	withBoth(t, func(h *held) {
		own, one, key, context := scalar(1), once(1), keyOf(1), []byte("ctx")
		p := packet{Mark: 1, Point: [keyLen]byte(pointOf(own)), Once: [keyLen]byte(pointOf(one))}
		shared, _ := sharedBy(one, pointOf(own))
		with := func(key, nonce, beside []byte) []byte {
			box, _ := h.c.Seal(key, nonce, beside, keyOf(1))
			x := p
			x.Box = [boxLen]byte(box)
			return x.bytes()
		}
		right, zeros := p.key(shared), make([]byte, nonceLen)
		h.opens(own, with(right, zeros, context), context, key)
		h.opens(own, p.sealed(h.c, shared, key, nil), nil, key)
		swapped := packet{Point: p.Once, Once: p.Point} // its key has the points in the other order as its salt
		for _, x := range [][]byte{shared, swapped.key(shared), p.key(key), p.key(nil), make([]byte, keyLen), packet{}.key(shared), turned(right, 255)} {
			h.refuses(own, with(x, zeros, context), context, api.ErrAuth)
		}
		for bit := range 8 * nonceLen {
			h.refuses(own, with(right, turned(zeros, bit), context), context, api.ErrAuth)
		}
		for _, beside := range [][]byte{nil, p.bytes()[:boxAt], slices.Concat(p.bytes()[:boxAt], context), slices.Concat(context, p.bytes()[:boxAt]), {0}} {
			h.refuses(own, with(right, zeros, beside), context, api.ErrAuth)
		}
	})
}
