package crypt_test

import (
	"bytes"
	"slices"
	"testing"

	"orlop/aead"
	"orlop/api"
	"orlop/crypt"
	"orlop/sha"
	"orlop/word"
)

// lengths: few bytes, those around the multiples of 8, 16 and 64, and many.
var lengths = []int{0, 1, 2, 7, 8, 9, 15, 16, 17, 23, 24, 25, 55, 56, 63, 64, 65, 80, 127, 128, 129, 255, 256, 257, 1000, 4096, 1<<16 + 1, 1<<20 + 3}

// wrongKeys and wrongNonces: of other lengths than theirs, among them each other's.
var (
	wrongKeys   = []int{0, 1, nonceLen, 16, 31, 33, 64, 255, 256, 256 + keyLen, 1<<16 + keyLen}
	wrongNonces = []int{0, 1, 8, 11, 13, 24, keyLen, 255, 256, 256 + nonceLen, 1<<16 + nonceLen}
)

// P12.1: the real crypt's digests, boxes and texts are those that are known: of FIPS 180-4's messages, and of RFC 8439, 2.8.2.
func TestRealPublished(t *testing.T) {
	c := crypt.Real()
	for text, want := range map[string]string{
		"":    "e3b0c44298fc1c149afbf4c8996fb92427ae41e4649b934ca495991b7852b855",
		"abc": "ba7816bf8f01cfea414140de5dae2223b00361a396177a9cb410ff61f20015ad",
	} {
		if got := sumOf(t, c, []byte(text)); word.Hex(got) != want {
			t.Errorf("Sum(%q): %x", text, got)
		}
	}
	key, _ := word.Unhex("808182838485868788898a8b8c8d8e8f909192939495969798999a9b9c9d9e9f")
	nonce, _ := word.Unhex("070000004041424344454647")
	beside, _ := word.Unhex("50515253c0c1c2c3c4c5c6c7")
	text := []byte("Ladies and Gentlemen of the class of '99: If I could offer you only one tip for the future, sunscreen would be it.")
	box, code := boxOf(t, c, key, nonce, beside, text)
	if code != api.OK || !bytes.HasPrefix(box, []byte{0xd3, 0x1a, 0x8d, 0x34}) || word.Hex(box[len(text):]) != "1ae10b594f09e26a7e902ecbd0600691" {
		t.Errorf("% x, code %d", box, code)
	}
	opens(t, c, key, nonce, beside, box, text)
}

// P12.1: it digests as layer 2 does.
func TestRealSum(t *testing.T) {
	c := crypt.Real()
	for _, n := range lengths {
		for _, text := range [][]byte{row(n), other(n), make([]byte, n)} {
			for range 2 {
				if got := sumOf(t, c, text); !bytes.Equal(got, sha.Of(text)) {
					t.Errorf("Sum of %d bytes: % x", n, got)
				}
			}
		}
	}
	if got := sumOf(t, c, nil); !bytes.Equal(got, sha.Of(nil)) {
		t.Errorf("Sum of nil: % x", got)
	}
}

// P12.1, P12.2: it seals and opens as layer 6 does, whatever was asked before; what it sealed it opens.
func TestRealSealAndOpen(t *testing.T) {
	c := crypt.Real()
	for _, texts := range lengths {
		for _, besides := range []int{0, 1, 16, 100} {
			key, nonce, beside, text := drawn(int64(texts), keyLen), drawn(int64(besides), nonceLen), other(besides), row(texts)
			want, _ := aead.Seal(key, nonce, beside, text)
			for range 2 {
				box, code := boxOf(t, c, key, nonce, beside, text)
				if code != api.OK || len(box) != texts+tagLen || !bytes.Equal(box, want) {
					t.Fatalf("%d bytes, %d beside: a box of %d, code %d, not layer 6's", texts, besides, len(box), code)
				}
				opens(t, c, key, nonce, beside, box, text)
				opens(t, crypt.Real(), key, nonce, beside, box, text)
			}
		}
	}
}

// P12.1: it refuses what layer 6 refuses: boxes one of whose bits is turned, with a byte more or fewer, or with another key, nonce or row beside.
func TestRealRefuses(t *testing.T) {
	c := crypt.Real()
	key, nonce, beside := row(keyLen), other(nonceLen), row(20)
	for _, n := range []int{0, 1, 40} {
		box, _ := boxOf(t, c, key, nonce, beside, row(n))
		for bit := range 8 * len(box) {
			refuses(t, c, key, nonce, beside, turned(box, bit), api.ErrAuth)
		}
		for at := range len(box) + 1 {
			refuses(t, c, key, nonce, beside, slices.Insert(bytes.Clone(box), at, 7), api.ErrAuth)
		}
		for short := range len(box) {
			want := api.ErrAuth
			if short < tagLen {
				want = api.ErrFormat
			}
			refuses(t, c, key, nonce, beside, box[:short], want)
			refuses(t, c, key, nonce, beside, box[len(box)-short:], want)
		}
		for bit := range 8 * keyLen {
			refuses(t, c, turned(key, bit), nonce, beside, box, api.ErrAuth)
		}
		for bit := range 8 * nonceLen {
			refuses(t, c, key, turned(nonce, bit), beside, box, api.ErrAuth)
		}
		for bit := range 8 * len(beside) {
			refuses(t, c, key, nonce, turned(beside, bit), box, api.ErrAuth)
		}
		refuses(t, c, key, nonce, nil, box, api.ErrAuth)
		refuses(t, c, key, nonce, beside[:19], box, api.ErrAuth)
		refuses(t, c, key, nonce, append(bytes.Clone(beside), 0), box, api.ErrAuth)
	}
}

// P12.1: of both crypts: ErrArg, and nothing told, for keys and nonces of other lengths, ahead of ErrFormat and of ErrAuth.
func TestKeysAndNoncesOfOtherLengths(t *testing.T) {
	for name, c := range both() {
		box, code := boxOf(t, c, row(keyLen), other(nonceLen), row(3), row(30))
		if code != api.OK {
			t.Fatalf("%s: code %d", name, code)
		}
		noSuch := func(key, nonce []byte) {
			t.Helper()
			for _, n := range []int{0, 1, 8, 30} {
				if got, code := boxOf(t, c, key, nonce, row(3), row(n)); code != api.ErrArg || len(got) != 0 {
					t.Errorf("%s, a key of %d bytes, a nonce of %d: % x, code %d", name, len(key), len(nonce), got, code)
				}
			}
			for _, b := range [][]byte{nil, {}, box[:1], box[:15], box[:16], box, row(16), row(100)} {
				refuses(t, c, key, nonce, row(3), b, api.ErrArg)
			}
		}
		for _, n := range wrongKeys {
			noSuch(row(n), other(nonceLen))
			for _, m := range wrongNonces {
				noSuch(row(n), other(m))
			}
		}
		for _, n := range wrongNonces {
			noSuch(row(keyLen), other(n))
		}
		noSuch(nil, nil)
		noSuch(nil, other(nonceLen))
		noSuch(row(keyLen), nil)
		opens(t, c, row(keyLen), other(nonceLen), row(3), box, row(30))
	}
}

// P12.1: of both crypts: ErrFormat, and nothing told, for boxes of 0 to 15 bytes, were they ever sealed so or not; 16 bytes that nobody sealed: ErrAuth.
func TestBoxesOfFewerBytesThanATag(t *testing.T) {
	for name, c := range both() {
		for n := range tagLen {
			for _, texts := range []int{0, 1, 8, 100} {
				box, code := boxOf(t, c, row(keyLen), other(nonceLen), nil, row(texts))
				if code != api.OK || len(box) != texts+tagLen {
					t.Fatalf("%s: a box of %d bytes, code %d", name, len(box), code)
				}
				for _, b := range [][]byte{box[:n], box[len(box)-n:], row(n), make([]byte, n)} {
					refuses(t, c, row(keyLen), other(nonceLen), nil, b, api.ErrFormat)
					refuses(t, c, other(keyLen), row(nonceLen), row(9), b, api.ErrFormat)
				}
			}
		}
		refuses(t, c, row(keyLen), other(nonceLen), nil, nil, api.ErrFormat)
		refuses(t, c, row(keyLen), other(nonceLen), nil, row(tagLen), api.ErrAuth)
		refuses(t, c, row(keyLen), other(nonceLen), nil, bytes.Repeat([]byte{0xff}, tagLen), api.ErrAuth)
	}
}

// P12.2: of both crypts: what was sealed is opened, in whatever order, again and again, with the same key, nonce and row beside alone; no row beside may be nil or empty.
func TestWhatWasSealedIsOpened(t *testing.T) {
	for name, c := range both() {
		var boxes [][]byte
		for i := range 300 {
			box, code := boxOf(t, c, drawn(int64(i), keyLen), drawn(int64(i+1), nonceLen), row(i%20), other(i))
			if code != api.OK || len(box) != i+tagLen {
				t.Fatalf("%s: box %d has %d bytes, code %d", name, i, len(box), code)
			}
			boxes = append(boxes, box)
		}
		for _, step := range []int{1, 7, 299} {
			for j := range boxes {
				i := j * step % len(boxes)
				opens(t, c, drawn(int64(i), keyLen), drawn(int64(i+1), nonceLen), row(i%20), boxes[i], other(i))
				refuses(t, c, drawn(int64(i+1), keyLen), drawn(int64(i+1), nonceLen), row(i%20), boxes[i], api.ErrAuth)
			}
		}
		opens(t, c, drawn(20, keyLen), drawn(21, nonceLen), nil, boxes[20], other(20))
		opens(t, c, drawn(20, keyLen), drawn(21, nonceLen), []byte{}, boxes[20], other(20))
		for _, none := range [][]byte{nil, {}} {
			box, _ := boxOf(t, c, row(keyLen), row(nonceLen), none, none)
			opens(t, c, row(keyLen), row(nonceLen), nil, box, nil)
			opens(t, c, row(keyLen), row(nonceLen), []byte{}, box, nil)
		}
	}
}
