package sha_test

import (
	"bytes"
	"crypto/sha256"
	"math/rand"
	"strings"
	"testing"

	"orlop/sha"
	"orlop/word"
)

// published are digests that others worked out: of FIPS 180-4's examples, and of NIST's further ones.
var published = []struct {
	part   string
	times  int
	digest string
}{
	{"", 1, "e3b0c44298fc1c149afbf4c8996fb92427ae41e4649b934ca495991b7852b855"},
	{"abc", 1, "ba7816bf8f01cfea414140de5dae2223b00361a396177a9cb410ff61f20015ad"},
	{"abcdbcdecdefdefgefghfghighijhijkijkljklmklmnlmnomnopnopq", 1, "248d6a61d20638b8e5c026930c3e6039a33ce45964ff2167f6ecedd419db06c1"},
	{"abcdefghbcdefghicdefghijdefghijkefghijklfghijklmghijklmnhijklmnoijklmnopjklmnopqklmnopqrlmnopqrsmnopqrstnopqrstu", 1, "cf5b16a778af8380036ce59e7b0492370b249b11e8f07a51afac45037afee9d1"},
	{"a", 1000000, "cdc76e5c9914fb9281a1c7e284d73e67f1809a48a497200e046d39ccc7112cd0"},
	{"\xbd", 1, "68325720aabd7c82f30f554b313d0570c95accbb7dc4b5aae11204c08ffe732b"},
	{"\xc9\x8c\x8e\x55", 1, "7abc22c0ae5af26ce93dbb94433a0e0b2e119d014f8e7f65bd56c61ccccd9504"},
	{"\x00", 55, "02779466cdec163811d078815c633f21901413081449002f24aa3e80f0b88ef7"},
	{"\x00", 56, "d4817aa5497628e7c77e6b606107042bbba3130888c5f47a375e6179be789fbb"},
	{"\x00", 57, "65a16cb7861335d5ace3c60718b5052e44660726da4cd13bb745381b235a1785"},
	{"\x00", 64, "f5a5fd42d16a20302798ef6ed309979b43003d2320d9f0e8ea9831a92759fb4b"},
	{"\x00", 1000, "541b3e9daa09b20bf85fa273e5cbd3e80185aa4ec298e765db87742b70138a53"},
	{"A", 1000, "c2e686823489ced2017f6059b8b239318b6364f6dcd835d0a519105a1eadd6e4"},
	{"U", 1005, "f4d62ddec0f3dd90ea1380fa16a5ff8dc4c54b21740650f24afc4120903552b0"},
	{"\x00", 1000000, "d29751f2649b32ff572b5e0a9f541ea660a50f94ff0beedfb0b692b924cc8025"},
}

// P2.1
func TestPublishedDigests(t *testing.T) {
	for _, p := range published {
		h := sha.New()
		for range p.times {
			h.Add([]byte(p.part))
		}
		whole := []byte(strings.Repeat(p.part, p.times))
		if of, sum := word.Hex(sha.Of(whole)), word.Hex(h.Sum()); of != p.digest || sum != p.digest {
			t.Errorf("%.20q, %d times: %s of the whole, %s of its parts, not %s", p.part, p.times, of, sum, p.digest)
		}
	}
}

// P2.1: of 2^29 bytes on, how many bits there are doesn't lie in 4 bytes any more.
func TestPublishedDigestOfManyBytes(t *testing.T) {
	t.Parallel()
	part := bytes.Repeat([]byte{0x5a}, 1<<20)
	h := sha.New()
	for range 1 << 9 {
		h.Add(part)
	}
	if s := word.Hex(h.Sum()); s != "15a1868c12cc53951e182344277447cd0979536badcc512ad24c67e9b2d4f3dd" {
		t.Errorf("2^29 bytes 5a: %s", s)
	}
}

// P2.1: no bytes, however they are handed in, or not at all.
func TestNoBytes(t *testing.T) {
	want := reference(nil)
	for _, none := range [][]byte{nil, {}, row(9)[:0], row(9)[9:]} {
		h := sha.New()
		h.Add(none)
		if !bytes.Equal(sha.Of(none), want) || !bytes.Equal(h.Sum(), want) {
			t.Errorf("no bytes: % x, % x", sha.Of(none), h.Sum())
		}
	}
	if s := sha.New().Sum(); !bytes.Equal(s, want) {
		t.Errorf("nothing added: % x", s)
	}
}

// P2.1: messages of all lengths up to some blocks (55, 56, 57, 63, 64, 65, 119, 120, 128 bytes among them), and longer ones.
func TestMessagesOfManyLengths(t *testing.T) {
	lengths := []int{1000, 4095, 4096, 4097, 8191, 8192 + 55, 8192 + 56, 65535, 65536, 65537, 1<<20 - 1, 1 << 20, 1<<20 + 1}
	for n := range 700 {
		lengths = append(lengths, n)
	}
	for _, n := range lengths {
		for _, message := range [][]byte{row(n), make([]byte, n), bytes.Repeat([]byte{0xff}, n), bytes.Repeat([]byte{0x80}, n)} {
			if s := sha.Of(message); !bytes.Equal(s, reference(message)) {
				t.Errorf("%d bytes: % x, not % x", n, s, reference(message))
			}
		}
	}
}

// P2.1: every bit of a message counts, and what lies in its spare room doesn't.
func TestEveryBitCounts(t *testing.T) {
	for _, n := range []int{1, 55, 56, 64, 65, 120} {
		for bit := range 8 * n {
			message := row(n + 70)[:n]
			message[bit/8] ^= 1 << (bit % 8)
			if s := sha.Of(message); !bytes.Equal(s, reference(message)) {
				t.Errorf("%d bytes, bit %d turned: % x", n, bit, s)
			}
		}
	}
}

// P2.1: asked at every place, twice each, the digest is that of all that was added so far.
func TestSumIsAskedAgainAndAgain(t *testing.T) {
	for _, step := range []int{1, 2, 7, 55, 56, 63, 64, 65, 128} {
		message := row(400)
		h := sha.New()
		for at := 0; at+step <= len(message); at += step {
			h.Add(message[at : at+step])
			want := reference(message[:at+step])
			if first, second := h.Sum(), h.Sum(); !bytes.Equal(first, want) || !bytes.Equal(second, want) {
				t.Fatalf("steps of %d bytes: behind %d: % x, then % x", step, at+step, first, second)
			}
		}
	}
}

// P2.1: Sum changes nothing, wherever it is asked, nothing added behind it among that.
func TestMoreIsAddedBehindSum(t *testing.T) {
	for _, n := range around {
		message := row(n)
		want := reference(message)
		for at := range n + 1 {
			h := sha.New()
			h.Add(message[:at])
			h.Sum()
			h.Add(nil)
			h.Sum()
			h.Add(message[at:])
			if s := h.Sum(); !bytes.Equal(s, want) {
				t.Errorf("%d bytes, Sum asked behind %d: % x", n, at, s)
			}
		}
	}
}

// around are lengths around a block's, and around where the padding needs one block more.
var around = []int{0, 1, 55, 56, 57, 63, 64, 65, 119, 120, 121, 127, 128, 129, 191, 192, 193}

// P2.2
func TestCutsIntoThreeParts(t *testing.T) {
	for _, n := range around {
		message := row(n)
		want := reference(message)
		for first := range n + 1 {
			for second := first; second <= n; second++ {
				if s := ofParts(message[:first], message[first:second], message[second:]); !bytes.Equal(s, want) {
					t.Errorf("%d bytes cut at %d and %d: % x", n, first, second, s)
				}
			}
		}
	}
}

// P2.2
func TestCutsIntoLikeParts(t *testing.T) {
	message := row(1000)
	want := reference(message)
	for step := 1; step <= len(message); step++ {
		var parts [][]byte
		for at := 0; at < len(message); at += step {
			parts = append(parts, message[at:min(at+step, len(message))])
		}
		if s := ofParts(parts...); !bytes.Equal(s, want) {
			t.Errorf("cut into parts of %d bytes: % x", step, s)
		}
	}
}

// P2.2: parts of any lengths, with empty ones between them.
func TestCutsByLot(t *testing.T) {
	draw := rand.New(rand.NewSource(2))
	for range 2000 {
		message := row(draw.Intn(900))
		var parts [][]byte
		for at := 0; at < len(message); {
			for range draw.Intn(3) {
				parts = append(parts, nil, []byte{})
			}
			n := min(draw.Intn(1<<draw.Intn(10)), len(message)-at)
			parts = append(parts, message[at:at+n])
			at += n
		}
		parts = append(parts, message[:0])
		if s := ofParts(parts...); !bytes.Equal(s, reference(message)) {
			t.Fatalf("%d bytes in %d parts: % x", len(message), len(parts), s)
		}
	}
}

// P2.1: digests on their way at once know nothing of one another, nor of Of.
func TestManyDigestsAtOnce(t *testing.T) {
	draw := rand.New(rand.NewSource(3))
	var hashes [5]*sha.Hash
	var added [5][]byte
	for i := range hashes {
		hashes[i] = sha.New()
	}
	for range 1000 {
		i := draw.Intn(len(hashes))
		part := make([]byte, draw.Intn(100))
		draw.Read(part)
		hashes[i].Add(part)
		added[i] = append(added[i], part...)
		if other := row(draw.Intn(200)); !bytes.Equal(sha.Of(other), reference(other)) {
			t.Fatalf("%d bytes, while others are on their way: % x", len(other), sha.Of(other))
		}
		for j, h := range hashes {
			if s := h.Sum(); !bytes.Equal(s, reference(added[j])) {
				t.Fatalf("digest %d, of %d bytes: % x", j, len(added[j]), s)
			}
		}
	}
	if s := sha.New().Sum(); !bytes.Equal(s, reference(nil)) {
		t.Errorf("a new one behind them: % x", s)
	}
}

// A message isn't changed, its spare room neither, and isn't seen any more behind the call.
func TestMessagesAreNeitherChangedNorKept(t *testing.T) {
	for _, n := range around {
		whole := row(n + 80)
		message := whole[:n]
		first := sha.Of(message)
		h := sha.New()
		h.Add(message)
		h.Sum()
		h.Add(message)
		if !bytes.Equal(whole, row(n+80)) {
			t.Errorf("%d bytes: the message, or its spare room, was changed", n)
		}
		clear(whole)
		twice := append(row(n), row(n)...)
		if s := h.Sum(); !bytes.Equal(s, reference(twice)) || !bytes.Equal(first, reference(row(n))) {
			t.Errorf("%d bytes written over behind the call: % x, % x", n, first, s)
		}
		h.Add(row(3))
		if s := h.Sum(); !bytes.Equal(s, reference(append(twice, row(3)...))) {
			t.Errorf("%d bytes written over behind the call, and more added: % x", n, s)
		}
	}
}

// What is answered is new memory: it may be written over, its spare room too.
func TestAnswersShareNothing(t *testing.T) {
	for _, n := range around {
		message := row(n)
		want := reference(message)
		h := sha.New()
		h.Add(message)
		for _, ask := range []func() []byte{h.Sum, func() []byte { return sha.Of(message) }} {
			first, second := ask(), ask()
			clear(first[:cap(first)])
			if third := ask(); !bytes.Equal(second, want) || !bytes.Equal(third, want) {
				t.Errorf("%d bytes: answers share memory: % x, % x", n, second, third)
			}
		}
		h.Add(message)
		if s := h.Sum(); !bytes.Equal(s, reference(append(message, message...))) {
			t.Errorf("%d bytes, more added behind an answer that was written over: % x", n, s)
		}
	}
}

// reference: the digest as the library of Go has it.
func reference(message []byte) []byte {
	s := sha256.Sum256(message)
	return s[:]
}

// ofParts: the digest of parts that are added one behind the other.
func ofParts(parts ...[]byte) []byte {
	h := sha.New()
	for _, part := range parts {
		h.Add(part)
	}
	return h.Sum()
}

// row: n bytes of which hardly two neighbours are alike, the same each time.
func row(n int) []byte {
	b := make([]byte, n)
	rand.New(rand.NewSource(7)).Read(b)
	return b
}
