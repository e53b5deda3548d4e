package wrap_test

import (
	"bytes"
	"encoding/hex"
	"slices"
	"strings"
	"testing"

	"orlop/api"
	"orlop/crypt"
	"orlop/wrap"
)

// alice and bob are RFC 7748's two, with their points, and knownKey is what is wrapped.
const (
	alice      = "77076d0a7318a57d3c16c17251b26645df4c2f87ebc0992ab177fba51db92c2a"
	bob        = "5dab087e624a8a4b79e17f8b83800ee66f3bb1292618b6fd1c2f8b27ff88e0eb"
	alicePoint = "8520f0098930a754748b7ddcb43ef75a0dbf3a0d26381af4eba4a98eaa9b4e6a"
	bobPoint   = "de9edb7d7b7dc1b4d35b61c2ece435373f8343c85b78674dadfc7e146f882b4f"
	zeroPoint  = "2fe57da347cd62431528daac5fbb290730fff684afc4cfc2ed90995f58cb3b74" // of bytes 00
	onesPoint  = "847c0d2c375234f365e660955187a3735a0f7613d1609d3a6a4d8c53aeaa5a22" // of bytes FF
	knownKey   = "808182838485868788898a8b8c8d8e8f909192939495969798999a9b9c9d9e9f"
)

// known: packets that another program put together, and whose scalar unwraps them ("" if nobody's).
var known = []struct{ once, scalar, point, key, context, oncePoint, box string }{
	{alice, bob, bobPoint, knownKey, "", alicePoint, "539ef92169f059a46814b45c0a37b4a1b8374a0e867db700e0f23c0bbd67ed03" + "38d8e6973d238f95109cd4c068ebe4f2"},
	{bob, alice, alicePoint, knownKey, "", bobPoint, "e87b2105ab8412ce0268288003616232b08d3156d60fa981f4220cc0e9e71423" + "325f8e5f115c0f533d773a3b5f0f40a2"},
	{alice, bob, bobPoint, strings.Repeat("00", 32), "layer 0", alicePoint, "d31f7ba2ed75df23e09d3ed786ba3a2e28a6d89d12e82197786ba69021fa739c" + "9846a9a4839f8cded84496698dc3973a"},
	{alice, bob, bobPoint, strings.Repeat("ff", 32), "orlop\x00name\x001\x000", alicePoint, "2ce0845d128a20dc1f62c1287945c5d1d7592762ed17de688794596fde058c63" + "7a81d839d969f2670eaec4af68bcfee2"},
	{strings.Repeat("00", 32), strings.Repeat("ff", 32), onesPoint, knownKey, "ctx", zeroPoint, "c67841a0ae5108bf5072bd06e6d302e9f5920d1f408912888ba4164b527ca65e" + "2e2b45391a1c241367ef0de79e4efc7d"},
	{strings.Repeat("ff", 32), strings.Repeat("00", 32), zeroPoint, knownKey, "ctx", onesPoint, "4a6decee6f8e772338b396cdb4ee9bc7cbd0087c2483b36ef53a3b6a56ed3196" + "9964a7fc8e2571de712e36e8e811fd45"},
	{bob, bob, bobPoint, knownKey, strings.Repeat("x", 300), bobPoint, "cddd14a4fa93dbb0a4807b430a0d95c35c93c861f4abdff264b27d528b3b82c3" + "8c35c6586184451e3e846eb708d58fec"},
	{alice, "", bobPoint[:62] + "cf", knownKey, "ctx", alicePoint, "41d511baf89a3c0ed4050294dde53afc5016bb21433a2645780d43ecdcdfc020" + "6c98d744d82b51ae5b61427ed71e7b6c"},
	{alice, "", strings.Repeat("ff", 32), knownKey, "ctx", alicePoint, "54c533d1044e47dc2cb1b63a6056ccf5cf10d48c62e13a9df31282943bba6a4d" + "fafa39761f5f601159271a49d23612ad"},
}

// P18.1, P18.2: packets of which another program told how they are, with the real crypt.
func TestKnownPackets(t *testing.T) {
	h := &held{t, crypt.Real(), crypt.Real(), false}
	for _, k := range known {
		b := h.wrap(unhex(k.once), unhex(k.point), unhex(k.key), []byte(k.context))
		if want := "01" + k.point + k.oncePoint + k.box; hex.EncodeToString(b) != want {
			t.Errorf("once %s, point %s: %x, not %s", k.once, k.point, b, want)
		}
		if k.scalar != "" {
			h.opens(unhex(k.scalar), b, []byte(k.context), unhex(k.key))
		}
	}
}

// P18.1, P18.2: a book's boxes are numbered, packet by packet; the points are as they are with the real crypt.
func TestABooksPackets(t *testing.T) {
	c := crypt.Book()
	for i, k := range known {
		got, code := wrapped(t, c, unhex(k.once), unhex(k.point), unhex(k.key), []byte(k.context))
		want := "01" + k.point + k.oncePoint + strings.Repeat("000000000000000"+string(rune('0'+i)), 6)
		if code != api.OK || hex.EncodeToString(got) != want {
			t.Errorf("packet %d: %x, code %d, not %s", i, got, code, want)
		}
		if k.scalar == "" {
			continue
		}
		if key, code := unwrapped(t, c, unhex(k.scalar), unhex(want), []byte(k.context)); code != api.OK || hex.EncodeToString(key) != k.key {
			t.Errorf("packet %d, unwrapped: %x, code %d, not %s", i, key, code, k.key)
		}
	}
}

// P18.1 to P18.3: the chapter's examples.
func TestExamples(t *testing.T) {
	withBoth(t, func(h *held) {
		a, b := scalar(1), scalar(2)
		packet := h.wrap(once(1), pointOf(a), keyOf(1), []byte("context"))
		h.opens(a, packet, []byte("context"), keyOf(1))
		h.refuses(b, packet, []byte("context"), api.ErrNoRecipient)
		h.refuses(a, packet, []byte("another"), api.ErrAuth)
	})
}

// contexts: of none, of few and of many bytes.
var contexts = [][]byte{nil, {}, {0}, []byte("ctx"), []byte("orlop\x00name\x001\x000"), other(15), other(16), other(17), other(113), other(300), other(70000)}

// rows32: rows that may be a scalar and a key: of like bytes, with one bit, and others.
func rows32() [][]byte {
	var all [][]byte
	for _, each := range []byte{0x00, 0x01, 0x40, 0x7f, 0x80, 0xff} {
		all = append(all, bytes.Repeat([]byte{each}, keyLen))
	}
	for _, bit := range []int{0, 3, 127, 254, 255} {
		all = append(all, turned(make([]byte, keyLen), bit))
	}
	return append(all, row(keyLen), other(keyLen))
}

// P18.1 to P18.3: each such scalar used once, as a recipient's, and as a key that is wrapped, in each context; it has 113 bytes, and its parts in their order.
func TestWhatIsWrappedIsUnwrapped(t *testing.T) {
	withBoth(t, func(h *held) {
		for i, one := range rows32() {
			for j, own := range rows32() {
				context, key := contexts[(i+j)%len(contexts)], rows32()[(i*3+j)%13]
				b := h.wrap(one, pointOf(own), key, context)
				if b[0] != 1 || !bytes.Equal(b[pointAt:onceAt], pointOf(own)) || !bytes.Equal(b[onceAt:boxAt], pointOf(one)) {
					h.t.Fatalf("once %x, for the scalar %x: %x", one, own, b)
				}
				h.opens(own, b, context, key)
			}
		}
		for _, context := range contexts {
			for _, key := range rows32() {
				h.opens(scalar(1), h.wrap(once(1), pointOf(scalar(1)), key, context), context, key)
			}
		}
		h.counts()
	})
}

// P18.1: what is wrapped is the same each time with the real crypt; a book's boxes have other numbers, each is unwrapped.
func TestWrappedTwice(t *testing.T) {
	withBoth(t, func(h *held) {
		seen := map[string]bool{}
		for range 4 {
			b := h.wrap(once(1), pointOf(scalar(1)), keyOf(1), []byte("ctx"))
			seen[string(b)] = true
			h.opens(scalar(1), b, []byte("ctx"), keyOf(1))
		}
		for b := range seen {
			h.opens(scalar(1), []byte(b), []byte("ctx"), keyOf(1))
		}
		if h.isBook && len(seen) != 4 || !h.isBook && len(seen) != 1 {
			h.t.Errorf("%d unlike packets", len(seen))
		}
		h.counts()
	})
}

// lengths: of rows that may be handed in as once, point and key; 32 is right.
var lengths = []int{0, 1, 16, 31, 32, 33, 48, 64, packetLen, 256 + keyLen, 1<<16 + keyLen}

// P18.1: once, point or key of another length than 32, alone and together: ErrArg, and a book is as it was.
func TestWrapRefusesLengths(t *testing.T) {
	withBoth(t, func(h *held) {
		for _, onces := range lengths {
			for _, points := range lengths {
				for _, keys := range lengths {
					wrong := onces != keyLen || points != keyLen || keys != keyLen
					if _, code := h.tryWrap(row(onces), other(points), row(keys), []byte("ctx")); (code == api.ErrArg) != wrong {
						h.t.Fatalf("once %d, point %d, key %d bytes: code %d", onces, points, keys, code)
					}
				}
			}
		}
		for n := range 200 {
			for i := range 3 {
				rows := [3][]byte{row(keyLen), other(keyLen), row(keyLen)}
				if rows[i] = drawn(9, n); n == 0 {
					rows[i] = nil
				}
				if _, code := h.tryWrap(rows[0], rows[1], rows[2], nil); (code == api.OK) != (n == keyLen) {
					h.t.Fatalf("argument %d has %d bytes: code %d", i, n, code)
				}
			}
		}
		if got, code := wrap.Wrap(h.c, nil, nil, nil, nil); code != api.ErrArg || len(got) > 0 {
			h.t.Errorf("of nothing: %x, code %d", got, code)
		}
		h.counts()
	})
}

// P18.1: points of low order, all that there are: ErrLowOrder, whatever scalar is used once; a book is as it was.
func TestWrapRefusesPointsOfLowOrder(t *testing.T) {
	withBoth(t, func(h *held) {
		for _, point := range ofLowOrder() {
			for _, one := range rows32() {
				for _, context := range contexts[:4] {
					if _, code := h.tryWrap(one, point, keyOf(1), context); code != api.ErrLowOrder {
						h.t.Fatalf("point %x: code %d", point, code)
					}
				}
			}
			for bit := 8; bit < 255; bit += 13 { // what is nearly the same is a point as others are
				h.wrap(once(1), turned(point, bit), keyOf(1), nil)
			}
		}
		h.counts()
	})
}

// P18.1: which code comes where a point is of low order and a length is wrong: ErrArg.
func TestWrapWhichCode(t *testing.T) {
	withBoth(t, func(h *held) {
		for _, point := range ofLowOrder() {
			for _, n := range []int{0, 31, 33} {
				for _, rows := range [][3][]byte{{row(n), point, row(keyLen)}, {row(keyLen), point, row(n)}, {row(n), point, row(n)}, {row(keyLen), append(bytes.Clone(point), 0)[:n], row(keyLen)}, {row(n), nil, row(keyLen)}} {
					if _, code := h.tryWrap(rows[0], rows[1], rows[2], nil); code != api.ErrArg {
						h.t.Fatalf("once of %d bytes, point %x, key of %d: code %d", len(rows[0]), rows[1], len(rows[2]), code)
					}
				}
			}
		}
		h.counts()
	})
}

// P18.1, P18.2: a point whose greatest bit is set, or that tells a number from the prime on, stands in the packet as it was handed in: it is for this very point, which no scalar has. With the point made the scalar's own the box is another one's.
func TestPointsThatNoScalarHas(t *testing.T) {
	withBoth(t, func(h *held) {
		for i := range int64(8) {
			own := pointOf(scalar(i))
			b := h.wrap(once(i), turned(own, 255), keyOf(i), []byte("ctx"))
			right := h.wrap(once(i), own, keyOf(i), []byte("ctx"))
			if !bytes.Equal(b[pointAt:onceAt], turned(own, 255)) || bytes.Equal(b[boxAt:], right[boxAt:]) {
				h.t.Errorf("%x, for the scalar's point %x", b, right)
			}
			for _, same := range alike(scalar(i)) {
				h.refuses(same, b, []byte("ctx"), api.ErrNoRecipient)
			}
			h.refuses(once(i), b, []byte("ctx"), api.ErrNoRecipient)
			h.refuses(scalar(i), slices.Concat(b[:pointAt], own, b[onceAt:]), []byte("ctx"), api.ErrAuth)
			h.refuses(scalar(i), slices.Concat(b[:onceAt], right[onceAt:]), []byte("ctx"), api.ErrNoRecipient)
			h.opens(scalar(i), right, []byte("ctx"), keyOf(i))
		}
		for low := 0xed; low < 256; low++ { // 2^255 - 19 is ED FF .. FF 7F
			point := bytes.Repeat([]byte{0xff}, keyLen)
			point[0] = byte(low)
			for _, point := range [][]byte{point, turned(point, 255)} {
				b, code := h.tryWrap(once(1), point, keyOf(1), nil)
				if code == api.OK && !bytes.Equal(b[pointAt:onceAt], point) || code != api.OK && low > 0xee {
					h.t.Errorf("point %x: %x, code %d", point, b, code)
				}
			}
		}
		h.counts()
	})
}

// P18.1, P18.3: bits that clamping fixes don't matter: of a scalar that is used once, and of one that unwraps.
func TestBitsThatClampingFixes(t *testing.T) {
	withBoth(t, func(h *held) {
		own, one := scalar(1), once(1)
		b := h.wrap(one, pointOf(own), keyOf(1), []byte("ctx"))
		for _, same := range alike(own) {
			h.opens(same, b, []byte("ctx"), keyOf(1))
			if again := h.wrap(one, pointOf(same), keyOf(1), []byte("ctx")); !bytes.Equal(again[:boxAt], b[:boxAt]) {
				h.t.Errorf("for %x: %x, not %x", same, again, b)
			}
		}
		for _, same := range alike(one) {
			again := h.wrap(same, pointOf(own), keyOf(1), []byte("ctx"))
			if !bytes.Equal(again[:boxAt], b[:boxAt]) {
				h.t.Errorf("once %x: %x, not %x", same, again, b)
			}
			h.opens(own, again, []byte("ctx"), keyOf(1))
		}
		for bit := 3; bit < 254; bit++ {
			h.refuses(turned(own, bit), b, []byte("ctx"), api.ErrNoRecipient)
		}
		h.counts()
	})
}

// P18.3: wrapped for the point of the scalar that is used once, it is unwrapped by that.
func TestWrappedForOnce(t *testing.T) {
	withBoth(t, func(h *held) {
		for _, one := range rows32() {
			b := h.wrap(one, pointOf(one), keyOf(1), []byte("ctx"))
			if !bytes.Equal(b[pointAt:onceAt], b[onceAt:boxAt]) {
				h.t.Errorf("%x has unlike points", b)
			}
			h.opens(one, b, []byte("ctx"), keyOf(1))
		}
	})
}

// listening is a crypt that remembers what it is asked for.
type listening struct {
	crypt.Crypt
	asked []string
}

func (l *listening) ask(what string, rows ...[]byte) {
	for _, b := range rows {
		what += " " + hex.EncodeToString(b)
	}
	l.asked = append(l.asked, what)
}

func (l *listening) Sum(b []byte) []byte {
	l.ask("sum", b)
	return l.Crypt.Sum(b)
}

func (l *listening) Seal(key, nonce, beside, text []byte) ([]byte, api.Code) {
	l.ask("seal", key, nonce, beside, text)
	return l.Crypt.Seal(key, nonce, beside, text)
}

func (l *listening) Open(key, nonce, beside, box []byte) ([]byte, api.Code) {
	l.ask("open", key, nonce, beside, box)
	return l.Crypt.Open(key, nonce, beside, box)
}

// P18.1, P18.2: with which key and nonce, and beside what, the box is sealed and opened, once; nothing else is asked for, and nothing at all by a call that is refused ahead of it, nor by For.
func TestWhatTheCryptIsAsked(t *testing.T) {
	for _, inner := range []crypt.Crypt{crypt.Real(), crypt.Book()} {
		c := &listening{Crypt: inner}
		asks := func(what string, rows ...[]byte) {
			t.Helper()
			var want listening
			if what != "" {
				want.ask(what, rows...)
			}
			if !slices.Equal(c.asked, want.asked) {
				t.Errorf("asked for %q, not %q", c.asked, want.asked)
			}
			c.asked = nil
		}
		for i, context := range contexts {
			one, own, key := once(int64(i)), scalar(int64(i)), keyOf(int64(i))
			secret, _ := sharedBy(one, pointOf(own))
			p := packet{Point: [keyLen]byte(pointOf(own)), Once: [keyLen]byte(pointOf(one))}
			b, _ := wrap.Wrap(c, one, pointOf(own), key, context)
			asks("seal", p.key(secret), make([]byte, nonceLen), context, key)
			wrap.For(b)
			asks("")
			wrap.Unwrap(c, own, b, context)
			asks("open", p.key(secret), make([]byte, nonceLen), context, b[boxAt:])
			wrap.Unwrap(c, own, turned(b, 8*packetLen-1), context)
			asks("open", p.key(secret), make([]byte, nonceLen), context, turned(b, 8*packetLen-1)[boxAt:])
			wrap.Wrap(c, one, make([]byte, keyLen), key, context)
			wrap.Wrap(c, one, pointOf(own), key[1:], context)
			wrap.Wrap(c, one[1:], pointOf(own), key, context)
			wrap.Unwrap(c, own[1:], b, context)
			wrap.Unwrap(c, own, b[1:], context)
			wrap.Unwrap(c, own, turned(b, 0), context)
			wrap.Unwrap(c, one, b, context)
			wrap.Unwrap(c, own, slices.Concat(b[:onceAt], make([]byte, keyLen), b[boxAt:]), context)
			asks("")
		}
	}
}

// What is handed in may share memory, and an answer shares none: once, point and key are one row, or lie one across the other; a packet is unwrapped with a context that is some of it.
func TestArgumentsThatShareMemory(t *testing.T) {
	withBoth(t, func(h *held) {
		for at := range keyLen + 1 {
			whole := row(3 * keyLen)
			one, point, key := whole[:keyLen], whole[at:at+keyLen], whole[at/2:at/2+keyLen]
			want, _ := wrappedBy(h.twin, one, point, key, whole)
			got, code := wrap.Wrap(h.c, one, point, key, whole)
			if code != api.OK || !bytes.Equal(got, want) || !bytes.Equal(whole, row(3*keyLen)) {
				h.t.Errorf("a point from the scalar's byte %d on: %x, code %d, not %x", at, got, code, want)
			}
		}
		own := row(keyLen)
		b := h.wrap(once(1), pointOf(own), own, own)
		whole := slices.Concat(own, b, own)
		if got, code := wrap.Unwrap(h.c, whole[:keyLen], whole[keyLen:keyLen+packetLen], whole[:keyLen]); code != api.OK || !bytes.Equal(got, own) {
			h.t.Errorf("%x, code %d, not %x", got, code, own)
		}
		if !bytes.Equal(whole, slices.Concat(own, b, own)) {
			h.t.Error("what was handed in was changed")
		}
		h.counts()
	})
}

// What is answered is new memory each time: it may be written over, and more may be put behind it, its spare room included.
func TestAnswersShareNothing(t *testing.T) {
	withBoth(t, func(h *held) {
		own, point, key, context := scalar(1), pointOf(scalar(1)), keyOf(1), []byte("ctx")
		b := h.wrap(once(1), point, key, context)
		kept := bytes.Clone(b)
		calls := map[string]func() ([]byte, api.Code){
			"Wrap":   func() ([]byte, api.Code) { return wrap.Wrap(h.c, once(1), point, key, context) },
			"Unwrap": func() ([]byte, api.Code) { return wrap.Unwrap(h.c, own, b, context) },
			"For":    func() ([]byte, api.Code) { return wrap.For(b) },
		}
		for name, call := range calls {
			first, _ := call()
			second, _ := call()
			want := bytes.Clone(second)
			_ = append(first, row(300)...)
			_ = append(first[:1], row(len(first)-1)...)
			turnAll(first[:cap(first)])
			third, code := call()
			if name == "Wrap" { // a book's boxes are numbered
				third, want = third[:boxAt], want[:boxAt]
				second = second[:boxAt]
			}
			if code != api.OK || !bytes.Equal(second, want) || !bytes.Equal(third, want) {
				h.t.Errorf("%s: answers share memory: %x, %x, not %x", name, second, third, want)
			}
			if !bytes.Equal(b, kept) || !bytes.Equal(own, scalar(1)) || !bytes.Equal(point, pointOf(own)) || !bytes.Equal(key, keyOf(1)) || string(context) != "ctx" {
				h.t.Errorf("%s: an answer shares memory with what was handed in", name)
			}
		}
		h.opens(own, b, context, key)
	})
}

// An answer hangs on the arguments, and on a book's numbers, alone: not on what was asked ahead, refused calls among that, nor on what was written over since.
func TestAnswersHangOnArgumentsAlone(t *testing.T) {
	withBoth(t, func(h *held) {
		own, one, key, context := scalar(1), once(1), keyOf(1), []byte("ctx")
		point := pointOf(own)
		b, _ := wrap.Wrap(h.c, one, point, key, context)
		wrappedBy(h.twin, one, point, key, context)
		kept := bytes.Clone(b)
		for _, x := range [][]byte{own, one, point, key, context} {
			turnAll(x)
		}
		if !bytes.Equal(b, kept) {
			h.t.Errorf("%x, written over behind the call: %x", kept, b)
		}
		for _, x := range rows32() {
			wrap.Wrap(h.c, x, make([]byte, keyLen), x, nil)
			wrap.Wrap(h.c, x, x[1:], x, nil)
			wrap.Unwrap(h.c, x, b, nil)
			wrap.Unwrap(h.c, scalar(1), b, x)
			wrap.For(x)
		}
		h.opens(scalar(1), b, []byte("ctx"), keyOf(1))
		turnAll(b)
		h.opens(scalar(1), kept, []byte("ctx"), keyOf(1))
		h.counts()
	})
}
