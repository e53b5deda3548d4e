package seal_test

import (
	"bytes"
	"crypto/sha256"
	"encoding/binary"
	"encoding/hex"
	"math"
	"math/big"
	"runtime/debug"
	"slices"
	"testing"

	"orlop/api"
	"orlop/crypt"
	"orlop/seal"
)

// knownKey and knownPrefix are those of known, and of knownLong.
const (
	knownKey    = "808182838485868788898a8b8c8d8e8f909192939495969798999a9b9c9d9e9f"
	knownPrefix = "07000000404142"
)

// known: what another program's ChaCha20-Poly1305 makes of these layers' chunks.
var known = []struct {
	context, layer string
	size           int
	sealed         string
}{
	{"", "", 1, "010700000040414200000001" + "4b41d1fc2864f6e3f3b3b1e5f2f59703"},
	{"", "", 65536, "010700000040414200010000" + "8eb540b2929d06c7754aa678bd0dafce"},
	{"layer 0", "", 10, "01070000004041420000000a" + "3288d299f468a5d03e5a370e2ab7abfd"},
	{"", "*", 1, "010700000040414200000001" + "b0b6bd9988421ca1ccfa024ab09563fb98"},
	{"", "abc", 1, "010700000040414200000001" + "accf9c2dd38f728205e496cd24bc705a16" + "63b2928923a2efcdeafe2a2f5a14bb9bb2" + "53d5b15e21c35cced2f2095516a7619240"},
	{"layer 0", "an image layer", 7, "010700000040414200000007" + "acd31f1bad37cccb34a3d9b183ceefb869453161779692" + "cf85279cd06d8ee2152ba71d97ee6e54fe32c765668cdd"},
	{"layer 0", "an image layer", 13, "01070000004041420000000d" + "acd31f1bad37cce484689886b5ebd48d2b886908ae8b4e5f89730af52e" + "d890f1526bc0f3c395e4008d67a75f11d0"},
	{"layer 0", "an image layer", 14, "01070000004041420000000e" + "fb54fcdeb458688bad9482694ebb6b0d0b331d422d23c01e7a7228d4dc44"},
	{"layer 1", "an image layer", 15, "01070000004041420000000f" + "fb54fcdeb458688bad9482694ebb148105eb0cfa259ecbdd1901ca4ed1cf"},
	{"layer 1", "an image layer", 65536, "010700000040414200010000" + "fb54fcdeb458688bad9482694ebbb1012bb05d9bb1af6961c2e51990970f"},
}

// knownLong: digests of what it makes of the bytes i * i + i / 256, of so many.
var knownLong = []struct {
	size, many int
	digest     string
}{
	{1, 70000, "73de3fbfe357834b4c5efc106773be62f4c089287636186ca7749a40a4dbce1f"},
	{64, 200000, "9658e3b805bb7635abef39bac79360452bdc4611bc8330333d30eabd58252665"},
	{256, 200000, "ffcd5637edc78da7979490d984ce4bf1448c87323cc2f688515df40d8a67e145"},
	{65535, 200000, "88aa4c98af5c2928b1f0e39dae1126168147077a39aede9e9d9dc2356c5eebb4"},
	{65536, 200000, "5c7b227f43d357131795de6357ac84106c83cd04c80b5575d76ce61605ad34f3"},
}

// P17.1, P17.2: layers of which another program told how they are, sealed with the real crypt.
func TestKnownLayers(t *testing.T) {
	key, prefix := unhex(knownKey), unhex(knownPrefix)
	for _, k := range known {
		got, code := sealed(t, crypt.Real(), key, prefix, []byte(k.context), []byte(k.layer), k.size)
		if code != api.OK || hex.EncodeToString(got) != k.sealed {
			t.Errorf("%q in chunks of %d: %x, code %d, not %s", k.layer, k.size, got, code, k.sealed)
		}
		if got, code := opened(t, crypt.Real(), key, []byte(k.context), unhex(k.sealed)); code != api.OK || string(got) != k.layer {
			t.Errorf("%s: %q, code %d, not %q", k.sealed, got, code, k.layer)
		}
	}
	for _, k := range knownLong {
		layer := make([]byte, k.many)
		for i := range layer {
			layer[i] = byte(i*i + i/256)
		}
		got, code := sealed(t, crypt.Real(), key, prefix, []byte("layer 2"), layer, k.size)
		if sum := sha256.Sum256(got); code != api.OK || hex.EncodeToString(sum[:]) != k.digest {
			t.Errorf("%d bytes in chunks of %d: %d bytes, code %d", k.many, k.size, len(got), code)
		}
		if again, code := opened(t, crypt.Real(), key, []byte("layer 2"), got); code != api.OK || !bytes.Equal(again, layer) {
			t.Errorf("%d bytes in chunks of %d aren't opened: code %d", k.many, k.size, code)
		}
	}
}

// P17.1: a book's boxes are numbered chunk by chunk, behind the head.
func TestABooksLayer(t *testing.T) {
	c, key, prefix := crypt.Book(), keyOf(1), prefixOf(1)
	want := hex.EncodeToString(prefix) + "0000000a"
	for i, boxes := range []string{
		"0000000000000000000000000000000000000000000000000000" + "0000000000000001000000000000000100000000000000010000" + "000000000000000200000000000000020000000000",
		"00000000000000030000000000000003",
		"0000000000000004000000000000000400",
	} {
		layer := row([]int{25, 0, 1}[i])
		got, code := sealed(t, c, key, prefix, []byte("context"), layer, 10)
		if code != api.OK || hex.EncodeToString(got) != "01"+want+boxes {
			t.Errorf("%d bytes: %x, code %d", len(layer), got, code)
		}
		if again, code := opened(t, c, key, []byte("context"), unhex("01"+want+boxes)); code != api.OK || !bytes.Equal(again, layer) {
			t.Errorf("%d bytes: % x, code %d", len(layer), again, code)
		}
	}
}

// contexts: of none, of few and of many bytes.
var contexts = [][]byte{nil, {}, {0}, []byte("ctx"), []byte("orlop\x00name\x001\x000"), other(headLen), other(300)}

// P17.1, P17.2, P17.3: layers around the multiples of the chunks' size: what was sealed is opened.
func TestEachLengthWithEachSize(t *testing.T) {
	withBoth(t, func(h *held) {
		for i, size := range []int{1, 2, 3, 7, 15, 16, 17, 63, 64, 65, 255, 256, 257, 4096, 65535, 65536} {
			for _, n := range []int{0, 1, 2, size - 1, size, size + 1, 2*size - 1, 2 * size, 2*size + 1, 4*size - 1, 4 * size, 4*size + 1} {
				for at, context := range contexts {
					if size > 300 && at != n%len(contexts) {
						continue // each of them is dear
					}
					key, prefix := keyOf(int64(n)), prefixOf(int64(i))
					h.opens(key, context, h.seal(key, prefix, context, row(n), size), row(n))
				}
			}
		}
		h.counts()
	})
}

// P17.1, P17.2, P17.3: all layers of few bytes, in chunks of few.
func TestEverySmallLayer(t *testing.T) {
	withBoth(t, func(h *held) {
		key, prefix := keyOf(1), prefixOf(1)
		for size := 1; size < 40; size++ {
			for n := range 83 {
				for _, layer := range [][]byte{row(n), make([]byte, n), bytes.Repeat([]byte{0xff}, n)} {
					h.opens(key, contexts[n%len(contexts)], h.seal(key, prefix, contexts[n%len(contexts)], layer, size), layer)
				}
			}
		}
		h.opens(key, nil, h.seal(key, prefix, nil, nil, 5), nil)
		h.counts()
	})
}

// P17.1, P17.2: chunks whose number has more than one byte, and the last of them.
func TestManyChunks(t *testing.T) {
	withBoth(t, func(h *held) {
		key, prefix, context := keyOf(1), prefixOf(1), []byte("ctx")
		for _, n := range []int{254, 255, 256, 257, 258, 511, 512, 513, 65536, 65537} {
			h.opens(key, context, h.seal(key, prefix, context, row(n), 1), row(n))
		}
		h.opens(key, context, h.seal(key, prefix, context, row(300*64), 64), row(300*64))
		h.opens(key, context, h.seal(key, prefix, context, row(1<<20), 64), row(1<<20))
	})
}

// numbered is a crypt that stands for one as long as each nonce tells the next number: with it as many chunks as need all four bytes of the number are soon sealed.
type numbered struct {
	crypt.Crypt
	asked, lasts int
	wrong        int
}

func (n *numbered) Seal(key, nonce, beside, text []byte) ([]byte, api.Code) {
	n.ask(nonce)
	return append(make([]byte, tagLen, tagLen+1), text...), api.OK
}

func (n *numbered) Open(key, nonce, beside, box []byte) ([]byte, api.Code) {
	n.ask(nonce)
	return box[tagLen:], api.OK
}

func (n *numbered) ask(nonce []byte) {
	if len(nonce) != 12 || binary.BigEndian.Uint32(nonce[prefixLen:]) != uint32(n.asked) || nonce[11] > 1 {
		n.wrong++
	}
	n.lasts += int(nonce[11]) * (n.asked + 1)
	n.asked++
}

// P17.1, P17.2: chunks whose number needs all of its four bytes.
func TestSoManyChunksThatTheNumberHasFourBytes(t *testing.T) {
	const many = 1<<24 + 3
	defer debug.SetGCPercent(debug.SetGCPercent(10)) // the rows are long, and what is thrown away is little
	sealer, opener := &numbered{Crypt: crypt.Real()}, &numbered{Crypt: crypt.Real()}
	b, code := seal.Seal(sealer, keyOf(1), prefixOf(1), nil, make([]byte, many), 1)
	if code != api.OK || len(b) != headLen+17*many || sealer.asked != many || sealer.lasts != many || sealer.wrong != 0 {
		t.Fatalf("%d bytes, code %d; %d chunks, the last one is %d, %d wrong nonces", len(b), code, sealer.asked, sealer.lasts, sealer.wrong)
	}
	layer, code := seal.Open(opener, keyOf(1), nil, b)
	if code != api.OK || len(layer) != many || opener.asked != many || opener.lasts != many || opener.wrong != 0 {
		t.Fatalf("%d bytes, code %d; %d chunks, the last one is %d, %d wrong nonces", len(layer), code, opener.asked, opener.lasts, opener.wrong)
	}
}

// listening is a crypt that remembers what it is asked for.
type listening struct {
	crypt.Crypt
	asked [][4]string
}

func (l *listening) Sum(b []byte) []byte {
	l.asked = append(l.asked, [4]string{"a digest"})
	return l.Crypt.Sum(b)
}

func (l *listening) Seal(key, nonce, beside, text []byte) ([]byte, api.Code) {
	l.asked = append(l.asked, [4]string{string(key), string(nonce), string(beside), string(text)})
	return l.Crypt.Seal(key, nonce, beside, text)
}

// P17.1: with which key and nonce, and beside what, each chunk is sealed, once and in order; and nothing else is asked for.
func TestWhatTheCryptIsAsked(t *testing.T) {
	for _, inner := range []crypt.Crypt{crypt.Real(), crypt.Book()} {
		key, prefix := string(keyOf(3)), "prefix!"
		head := "\x01prefix!\x00\x00\x00\x05"
		for layer, chunks := range map[string][]string{"": {""}, "a": {"a"}, "abcd": {"abcd"}, "abcde": {"abcde"}, "abcdef": {"abcde", "f"}, "abcdefghij": {"abcde", "fghij"}, "abcdefghijklm": {"abcde", "fghij", "klm"}} {
			for _, context := range []string{"", "x", "\x01prefix!"} {
				var want [][4]string
				for i, chunk := range chunks {
					end := "\x00"
					if i+1 == len(chunks) {
						end = "\x01"
					}
					want = append(want, [4]string{key, prefix + "\x00\x00\x00" + string(rune(i)) + end, head + context, chunk})
				}
				c := &listening{Crypt: inner}
				b, code := sealed(t, c, []byte(key), []byte(prefix), []byte(context), []byte(layer), 5)
				if code != api.OK || !slices.Equal(c.asked, want) {
					t.Errorf("%q, code %d: %q, not %q", layer, code, c.asked, want)
				}
				c.asked = nil
				if got, code := opened(t, c, []byte(key), []byte(context), b); code != api.OK || string(got) != layer || len(c.asked) > 0 {
					t.Errorf("%q isn't opened: %q, code %d; %q", layer, got, code, c.asked)
				}
			}
		}
	}
}

// keyLengths, prefixLengths and sizes: those that there may be, and others.
var (
	keyLengths    = []int{0, 1, prefixLen, 16, 31, 32, 33, 64, 256 + keyLen, 1<<16 + keyLen}
	prefixLengths = []int{0, 1, 6, 7, 8, 12, keyLen, 256 + prefixLen, 1<<16 + prefixLen}
	sizes         = []int{math.MinInt, math.MinInt + 1, math.MinInt32, -65536, -1, 0, 1, 2, 65535, 65536, 65537, 1 << 31, 1<<32 - 1, 1 << 32, 1<<32 + 1, 1<<32 + 65536, math.MaxInt - 1, math.MaxInt}
)

// P17.1: ErrArg of keys, prefixes and sizes that may not be, alone and together; a book is as it was then.
func TestSealRefuses(t *testing.T) {
	withBoth(t, func(h *held) {
		for _, keys := range keyLengths {
			for _, prefixes := range prefixLengths {
				for _, size := range sizes {
					for _, n := range []int{0, 5} {
						wrong := keys != keyLen || prefixes != prefixLen || size < 1 || size > maxSize
						got, code := sealed(h.t, h.c, row(keys), other(prefixes), nil, row(n), size)
						if wrong && code != api.ErrArg || !wrong && code != api.OK {
							h.t.Fatalf("a key of %d bytes, a prefix of %d, chunks of %d: % x, code %d", keys, prefixes, size, few(got), code)
						}
						if !wrong {
							sealedBy(h.twin, row(keys), other(prefixes), nil, row(n), size)
						}
					}
				}
			}
		}
		if _, code := seal.Seal(h.c, nil, nil, nil, nil, 0); code != api.ErrArg {
			h.t.Errorf("of nothing: code %d", code)
		}
		h.counts()
	})
}

// P17.1: the chapter's examples.
func TestLengthExamples(t *testing.T) {
	if a, b := seal.Length(0, 10), seal.Length(25, 10); a != 28 || b != 12+25+48 {
		t.Errorf("%d, %d", a, b)
	}
}

// lengthBy: how long a layer is, sealed, by numbers of any size.
func lengthBy(layer, size int) int {
	if layer < 0 || layer > math.MaxInt32 || size < 1 || size > maxSize {
		return 0
	}
	chunks, rest := new(big.Int).DivMod(big.NewInt(int64(layer)), big.NewInt(int64(size)), new(big.Int))
	if rest.Sign() > 0 || layer == 0 {
		chunks.Add(chunks, big.NewInt(1))
	}
	sum := chunks.Mul(chunks, big.NewInt(tagLen))
	sum.Add(sum, big.NewInt(int64(layer)))
	return int(sum.Add(sum, big.NewInt(headLen)).Int64())
}

// P17.1: Length of layers and sizes around the ends of what they may be.
func TestLengthAtTheEnds(t *testing.T) {
	layers := []int{math.MinInt, math.MinInt32, -65536, -17, -1, 0, 1, 2, 65535, 65536, 65537, 1 << 30, 1<<31 - 65537, 1<<31 - 65536, 1<<31 - 2, 1<<31 - 1, 1 << 31, 1<<31 + 1, 1<<32 - 1, 1 << 32, 1<<32 + 1, math.MaxInt - 65536, math.MaxInt - 1, math.MaxInt}
	for _, layer := range layers {
		for _, size := range append(sizes, 3, 10, 64, 100, 255, 256, 257, 32767, 32768, 65534) {
			if got, want := seal.Length(layer, size), lengthBy(layer, size); got != want {
				t.Errorf("Length(%d, %d): %d, not %d", layer, size, got, want)
			}
		}
	}
	for _, x := range [][3]int{{1<<31 - 1, 1, 12 + 17*(1<<31-1)}, {1<<31 - 1, 65536, 12 + 1<<31 - 1 + 32768*16}, {1 << 31, 1, 0}, {-1, 5, 0}, {0, 1, 28}, {0, 65536, 28}, {0, 65537, 0}, {0, 0, 0}} {
		if got := seal.Length(x[0], x[1]); got != x[2] {
			t.Errorf("Length(%d, %d): %d, not %d", x[0], x[1], got, x[2])
		}
	}
}

// P17.1: Length of all small layers, in chunks of each size, and of some layers around each size.
func TestLengthOfEach(t *testing.T) {
	for size := 1; size <= maxSize; size++ {
		for _, layer := range []int{0, 1, size - 1, size, size + 1, 2*size - 1, 2 * size, 2*size + 1, 1<<31 - size, 1<<31 - 1} {
			if got, want := seal.Length(layer, size), lengthBy(layer, size); got != want {
				t.Fatalf("Length(%d, %d): %d, not %d", layer, size, got, want)
			}
		}
	}
	for size := -3; size < 70; size++ {
		for layer := -3; layer < 300; layer++ {
			if got, want := seal.Length(layer, size), lengthBy(layer, size); got != want {
				t.Fatalf("Length(%d, %d): %d, not %d", layer, size, got, want)
			}
		}
	}
}

func unhex(text string) []byte {
	b, err := hex.DecodeString(text)
	if err != nil {
		panic(err)
	}
	return b
}
