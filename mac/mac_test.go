package mac_test

import (
	"bytes"
	"crypto/hkdf"
	"crypto/hmac"
	"crypto/sha256"
	"math"
	"math/rand"
	"strings"
	"testing"

	"orlop/api"
	"orlop/mac"
	"orlop/word"
)

const greatest = 8160 // the greatest length that is expanded to

// published codes: of RFC 4231 (the fifth is cut there), and two that are told of all over.
var published = []struct{ key, message, code string }{
	{times("\x0b", 20), "Hi There", "b0344c61d8db38535ca8afceaf0bf12b881dc200c9833da726e9376c2e32cff7"},
	{"Jefe", "what do ya want for nothing?", "5bdcc146bf60754e6a042426089575c75a003f089d2739839dec58b964ec3843"},
	{times("\xaa", 20), times("\xdd", 50), "773ea91e36800e46854db8ebd09181a72959098b3ef8c122d9635514ced565fe"},
	{upFrom(0x01, 25), times("\xcd", 50), "82558a389a443c0ea4cc819899f2083a85f0faa3e578f8077a2e3ff46729665b"},
	{times("\x0c", 20), "Test With Truncation", "a3b6167473100ee06e0c796c2955552b"},
	{times("\xaa", 131), "Test Using Larger Than Block-Size Key - Hash Key First", "60e431591ee0b67f0d8a26aacbf5b77f8e0bc6213728c5140546040f0ee37f54"},
	{times("\xaa", 131), "This is a test using a larger than block-size key and a larger than block-size data. The key needs to be hashed before being used by the HMAC algorithm.", "9b09ffa71b942fcb27635fbcd5b0e944bfdc63644f0713938a7f51535c3a35e2"},
	{"", "", "b613679a0814d9ec772f95d778c35fc5ff1697c493715653c6c712144292c5ad"},
	{"key", "The quick brown fox jumps over the lazy dog", "f7bc83f430538424b13298e6aa6fb143ef4d59a14946175997479dbc2d1a3cd8"},
}

// derived is published too: RFC 5869's examples with SHA-256.
var derived = []struct {
	secret, salt, info string
	extracted, made    string
}{
	{
		times("\x0b", 22), upFrom(0x00, 13), upFrom(0xf0, 10),
		"077709362c2e32df0ddc3f0dc47bba6390b6c73bb50f9c3122ec844ad7c2b3e5",
		"3cb25f25faacd57a90434f64d0362f2a2d2d0a90cf1a5a4c5db02d56ecc4c5bf34007208d5b887185865",
	},
	{
		upFrom(0x00, 80), upFrom(0x60, 80), upFrom(0xb0, 80),
		"06a6b88c5853361a06104c9ceb35b45cef760014904671014a193f40c15fc244",
		"b11e398dc80327a1c8e7f78c596a49344f012eda2d4efad8a050cc4c19afa97c59045a99cac7827271cb41c65e590e09da3275600c2f09b8367793a9aca3db71cc30c58179ec3e87c14c01d5c1f3434f1d87",
	},
	{
		times("\x0b", 22), "", "",
		"19ef24a32c717b167f33a91d6f648bdf96596776afdb6377ac434c1c293ccb04",
		"8da4e775a563c18f715f802a063c5a31b8a11f5c5ee1879ec3454e5f3c738d2d9d201395faa4b61a96c8",
	},
}

// P3.1
func TestPublishedCodes(t *testing.T) {
	for _, p := range published {
		code := word.Hex(mac.Mac([]byte(p.key), []byte(p.message)))
		if len(code) != 2*api.KeyLen || code[:len(p.code)] != p.code {
			t.Errorf("%.20q under %d bytes: %s, not %s", p.message, len(p.key), code, p.code)
		}
	}
}

// P3.1
func TestPublishedExpansions(t *testing.T) {
	for i, p := range derived {
		n := len(p.made) / 2
		key := mac.Extract([]byte(p.salt), []byte(p.secret))
		if s := word.Hex(key); s != p.extracted {
			t.Errorf("example %d: extracted %s, not %s", i+1, s, p.extracted)
		}
		if b, code := mac.Expand(key, []byte(p.info), n); code != api.OK || word.Hex(b) != p.made {
			t.Errorf("example %d: expanded %x, code %d, not %s", i+1, b, code, p.made)
		}
		if b, code := mac.Derive([]byte(p.secret), []byte(p.salt), []byte(p.info), n); code != api.OK || word.Hex(b) != p.made {
			t.Errorf("example %d: derived %x, code %d, not %s", i+1, b, code, p.made)
		}
	}
}

// around are lengths around a digest's and a block's, and much longer ones.
var around = []int{0, 1, 31, 32, 33, 55, 56, 63, 64, 65, 66, 127, 128, 129, 1000, 8160, 65537}

// P3.1: keys of all lengths up to some blocks, of 63, 64 and 65 bytes among them.
func TestKeysOfManyLengths(t *testing.T) {
	for n := range 300 {
		for _, key := range [][]byte{row(n), make([]byte, n), bytes.Repeat([]byte{0x36}, n), bytes.Repeat([]byte{0x5c}, n), bytes.Repeat([]byte{0xff}, n)} {
			checkCode(t, key, row(40))
			checkCode(t, key, nil)
		}
	}
	checkCode(t, row(1<<20), row(40))
}

// P3.1
func TestMessagesOfManyLengths(t *testing.T) {
	for n := range 300 {
		checkCode(t, row(20), row(n))
		checkCode(t, nil, row(n))
	}
	checkCode(t, row(20), row(1<<20))
	for _, key := range around {
		for _, message := range around {
			checkCode(t, row(key), row(message))
		}
	}
}

// P3.1: a key that is longer than a block stands for its digest, one that isn't stands for itself, with bytes 0 or without them.
func TestKeysThatMakeOneBlock(t *testing.T) {
	message := row(50)
	for n := range 200 {
		key := row(n)
		digest := sha256.Sum256(key)
		if like := bytes.Equal(mac.Mac(key, message), mac.Mac(digest[:], message)); like != (n > 64) {
			t.Errorf("a key of %d bytes, and its digest: one code: %v", n, like)
		}
		longer := append(row(n), 0)
		if like := bytes.Equal(mac.Mac(key, message), mac.Mac(longer, message)); like != (n < 64) {
			t.Errorf("a key of %d bytes, and a byte 0 behind it: one code: %v", n, like)
		}
	}
}

// P3.1: every bit of key and message counts, and what lies in their spare room doesn't.
func TestEveryBitCounts(t *testing.T) {
	for _, n := range []int{1, 32, 64, 65, 130} {
		for bit := range 8 * n {
			turned := row(n + 70)[:n]
			turned[bit/8] ^= 1 << (bit % 8)
			checkCode(t, turned, row(33))
			checkCode(t, row(33), turned)
		}
	}
}

// P3.1: the salt is the key, the secret the message.
func TestExtract(t *testing.T) {
	for _, salt := range around {
		for _, secret := range around {
			want := reference(row(salt), other(secret))
			if got := mac.Extract(row(salt), other(secret)); !bytes.Equal(got, want) {
				t.Errorf("a salt of %d bytes, a secret of %d: % x, not % x", salt, secret, got, want)
			}
		}
	}
}

// P3.1: no salt is 32 bytes 0, however it is handed in; other salts aren't.
func TestNoSalt(t *testing.T) {
	secret, info := row(32), row(9)
	want := reference(make([]byte, 32), secret)
	wantMade := expanded(t, want, info, 100)
	for _, salt := range [][]byte{nil, {}, row(9)[:0], row(9)[9:], make([]byte, 32)} {
		if got := mac.Extract(salt, secret); !bytes.Equal(got, want) {
			t.Errorf("salt % x: extracted % x, not % x", salt, got, want)
		}
		if got, code := mac.Derive(secret, salt, info, 100); code != api.OK || !bytes.Equal(got, wantMade) {
			t.Errorf("salt % x: derived % x, code %d, not % x", salt, got, code, wantMade)
		}
	}
	if bytes.Equal(mac.Extract([]byte{1}, secret), want) {
		t.Error("a salt of one byte 1 is as none")
	}
}

// P3.1: nothing may be nil or empty, and means the same.
func TestNoBytes(t *testing.T) {
	nothing := [][]byte{nil, {}, row(9)[:0], row(9)[9:]}
	wantCode, wantMade := reference(nil, nil), expanded(t, nil, nil, 65)
	wantDerived := expanded(t, wantCode, nil, 65)
	for _, a := range nothing {
		for _, b := range nothing {
			if got := mac.Mac(a, b); !bytes.Equal(got, wantCode) {
				t.Errorf("code: % x, not % x", got, wantCode)
			}
			if got := mac.Extract(a, b); !bytes.Equal(got, wantCode) {
				t.Errorf("extracted: % x, not % x", got, wantCode)
			}
			if got, code := mac.Expand(a, b, 65); code != api.OK || !bytes.Equal(got, wantMade) {
				t.Errorf("expanded: % x, code %d, not % x", got, code, wantMade)
			}
			if got, code := mac.Derive(a, b, nil, 65); code != api.OK || !bytes.Equal(got, wantDerived) {
				t.Errorf("derived: % x, code %d, not % x", got, code, wantDerived)
			}
		}
	}
}

// P3.1: keys and infos of many lengths, the least and the greatest length that is expanded to among others.
func TestExpand(t *testing.T) {
	lengths := []int{0, 1, 31, 32, 33, 63, 64, 65, 96, 97, 1000, 4096, 8127, 8128, 8129, greatest - 1, greatest}
	for _, n := range lengths {
		for _, at := range []int{0, 1, 31, 32, 63, 64, 65, 300} {
			checkExpanded(t, row(at), other(10), n)
			checkExpanded(t, row(32), other(at), n)
		}
	}
	checkExpanded(t, row(1<<20), other(10), greatest)
	checkExpanded(t, row(32), other(1<<14), greatest)
}

// P3.1: every length from the least to the greatest is one that is expanded to, and is how many bytes there are.
func TestDerive(t *testing.T) {
	secret, salt, info := row(32), other(20), row(7)
	want := expanded(t, reference(salt, secret), info, greatest)
	for n := 0; n <= greatest; n += 1 + n/16 {
		if got, code := mac.Derive(secret, salt, info, n); code != api.OK || !bytes.Equal(got, want[:n]) {
			t.Fatalf("%d bytes: %d are derived, code %d", n, len(got), code)
		}
	}
	if got, code := mac.Derive(secret, salt, info, greatest); code != api.OK || !bytes.Equal(got, want) {
		t.Errorf("%d bytes: %d are derived, code %d", greatest, len(got), code)
	}
}

// P3.1: ErrArg, and no bytes, whatever is beside the length.
func TestLengthsThatAreNot(t *testing.T) {
	for _, n := range []int{-1, -2, -32, -greatest, math.MinInt32, math.MinInt, greatest + 1, greatest + 2, 8191, 8192, 8193, 65536, math.MaxInt32, math.MaxInt} {
		for _, b := range [][]byte{nil, row(32), row(100)} {
			if got, code := mac.Expand(b, b, n); code != api.ErrArg || len(got) != 0 {
				t.Errorf("expanded to %d: %d bytes, code %d", n, len(got), code)
			}
			if got, code := mac.Derive(b, b, b, n); code != api.ErrArg || len(got) != 0 {
				t.Errorf("derived, %d: %d bytes, code %d", n, len(got), code)
			}
		}
	}
}

// P3.2: how many bytes are asked for changes none of those that fewer would have been.
func TestFewerBytesAreTheBeginningOfMore(t *testing.T) {
	key, info, salt := row(32), other(12), row(5)
	whole, code := mac.Expand(key, info, greatest)
	wholeDerived, codeDerived := mac.Derive(key, salt, info, greatest)
	if code != api.OK || codeDerived != api.OK || len(whole) != greatest || len(wholeDerived) != greatest {
		t.Fatalf("codes %d, %d; %d, %d bytes", code, codeDerived, len(whole), len(wholeDerived))
	}
	for n := range greatest {
		near := n%32 <= 1 || n%32 == 31
		if n > 300 && !near || n > 1000 && n < 8000 && n%512 > 32 {
			continue
		}
		if b, code := mac.Expand(key, info, n); code != api.OK || len(b) != n || !bytes.HasPrefix(whole, b) {
			t.Errorf("%d bytes aren't the beginning of %d, code %d", n, greatest, code)
		}
		if b, code := mac.Derive(key, salt, info, n); code != api.OK || len(b) != n || !bytes.HasPrefix(wholeDerived, b) {
			t.Errorf("%d derived bytes aren't the beginning of %d, code %d", n, greatest, code)
		}
	}
}

// calls are all that the layer has, each with up to three rows of bytes.
func calls(n int) map[string]func(rows [3][]byte) []byte {
	return map[string]func(rows [3][]byte) []byte{
		"Mac":     func(rows [3][]byte) []byte { return mac.Mac(rows[0], rows[1]) },
		"Extract": func(rows [3][]byte) []byte { return mac.Extract(rows[0], rows[1]) },
		"Expand":  func(rows [3][]byte) []byte { b, _ := mac.Expand(rows[0], rows[1], n); return b },
		"Derive":  func(rows [3][]byte) []byte { b, _ := mac.Derive(rows[0], rows[1], rows[2], n); return b },
	}
}

// What is handed in isn't changed, its spare room neither, and isn't seen any more behind the call.
func TestArgumentsAreNeitherChangedNorKept(t *testing.T) {
	for _, n := range []int{0, 1, 32, 63, 64, 65, 200} {
		for name, call := range calls(100) {
			whole := [3][]byte{row(n + 80), other(n + 80), row(n + 81)}
			rows := [3][]byte{whole[0][:n], whole[1][:n], whole[2][:n]}
			first := call(rows)
			want := bytes.Clone(first)
			if !bytes.Equal(whole[0], row(n+80)) || !bytes.Equal(whole[1], other(n+80)) || !bytes.Equal(whole[2], row(n+81)) {
				t.Errorf("%s of %d bytes: what was handed in, or its spare room, was changed", name, n)
			}
			for i := range whole {
				clear(whole[i])
			}
			if !bytes.Equal(first, want) {
				t.Errorf("%s of %d bytes, written over behind the call: % x, not % x", name, n, first, want)
			}
			zeros := [3][]byte{make([]byte, n), make([]byte, n), make([]byte, n)}
			if again := call(rows); !bytes.Equal(again, call(zeros)) || n > 0 && bytes.Equal(again, want) {
				t.Errorf("%s of %d bytes, written over ahead of another call: % x", name, n, again)
			}
			copy(rows[0], row(n))
			copy(rows[1], other(n))
			copy(rows[2], row(n))
			if again := call(rows); !bytes.Equal(again, want) {
				t.Errorf("%s of %d bytes, as they were at first: % x, not % x", name, n, again, want)
			}
		}
	}
}

// The same bytes may be handed in in several places, or bytes that overlap.
func TestArgumentsThatShareMemory(t *testing.T) {
	for name, call := range calls(100) {
		b := row(150)
		got := call([3][]byte{b[:100], b[20:120], b[:70]})
		b = row(150)
		if want := call([3][]byte{bytes.Clone(b[:100]), bytes.Clone(b[20:120]), bytes.Clone(b[:70])}); !bytes.Equal(got, want) {
			t.Errorf("%s: % x, not % x", name, got, want)
		}
	}
}

// What is answered is new memory: it may be written over, its spare room too.
func TestAnswersShareNothing(t *testing.T) {
	for _, n := range []int{1, 32, 33, 100} {
		for name, call := range calls(n) {
			rows := [3][]byte{row(32), other(32), row(20)}
			first, second := call(rows), call(rows)
			want := bytes.Clone(second)
			clear(first[:cap(first)])
			if third := call(rows); !bytes.Equal(second, want) || !bytes.Equal(third, want) {
				t.Errorf("%s: answers share memory: % x, % x", name, second, third)
			}
			if !bytes.Equal(rows[0], row(32)) || !bytes.Equal(rows[1], other(32)) || !bytes.Equal(rows[2], row(20)) {
				t.Errorf("%s: an answer shares memory with what was handed in", name)
			}
		}
	}
}

func checkCode(t *testing.T, key, message []byte) {
	t.Helper()
	if got, want := mac.Mac(key, message), reference(key, message); !bytes.Equal(got, want) {
		t.Errorf("%d bytes under %d: % x, not % x", len(message), len(key), got, want)
	}
}

func checkExpanded(t *testing.T, key, info []byte, n int) {
	t.Helper()
	if got, code := mac.Expand(key, info, n); code != api.OK || !bytes.Equal(got, expanded(t, key, info, n)) {
		t.Errorf("a key of %d bytes, an info of %d, expanded to %d: %d bytes, code %d, not those of the reference", len(key), len(info), n, len(got), code)
	}
}

// reference: the code as the library of Go has it.
func reference(key, message []byte) []byte {
	h := hmac.New(sha256.New, key)
	h.Write(message)
	return h.Sum(nil)
}

// expanded: a key made longer as the library of Go does it.
func expanded(t *testing.T, key, info []byte, n int) []byte {
	t.Helper()
	out, err := hkdf.Expand(sha256.New, key, string(info), n)
	if err != nil {
		t.Fatal(err)
	}
	return out
}

// row: n bytes of which hardly two neighbours are alike, the same each time, the fewer the beginning of the more.
func row(n int) []byte { return drawn(3, n) }

// other: as row, other bytes.
func other(n int) []byte { return drawn(4, n) }

func drawn(seed int64, n int) []byte {
	b := make([]byte, n)
	rand.New(rand.NewSource(seed)).Read(b)
	return b
}

func times(text string, n int) string { return strings.Repeat(text, n) }

// upFrom: n bytes, each greater by one than the one ahead.
func upFrom(first byte, n int) string {
	b := make([]byte, n)
	for i := range b {
		b[i] = first + byte(i)
	}
	return string(b)
}
