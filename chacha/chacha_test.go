package chacha_test

import (
	"bytes"
	"encoding/binary"
	"math"
	"math/bits"
	"math/rand"
	"strings"
	"testing"

	"orlop/api"
	"orlop/chacha"
	"orlop/word"
)

const (
	blockLen = 64
	greatest = math.MaxUint32 // the greatest counter
)

// Keys and nonces of RFC 8439.
const (
	noKey     = "0000000000000000000000000000000000000000000000000000000000000000"
	oneKey    = "0000000000000000000000000000000000000000000000000000000000000001"
	upFrom00  = "000102030405060708090a0b0c0d0e0f101112131415161718191a1b1c1d1e1f"
	upFrom80  = "808182838485868788898a8b8c8d8e8f909192939495969798999a9b9c9d9e9f"
	mixedKey  = "1c9240a5eb55d38af333888604f6b5f0473917c1402b80099dca5cbc207075c0"
	noNonce   = "000000000000000000000000"
	twoNonce  = "000000000000000000000002"
	sunscreen = "Ladies and Gentlemen of the class of '99: If I could offer you only one tip for the future, sunscreen would be it."
)

// publishedBlocks: of RFC 8439, 2.3.2, A.1, and (whose first halves alone are told there) 2.6.2 and A.4.
var publishedBlocks = []struct {
	key, nonce string
	counter    uint32
	block      string
}{
	{upFrom00, "000000090000004a00000000", 1, "10f1e7e4d13b5915500fdd1fa32071c4c7d1f4c733c068030422aa9ac3d46c4ed2826446079faa0914c2d705d98b02a2b5129cd1de164eb9cbd083e8a2503c4e"},
	{noKey, noNonce, 0, "76b8e0ada0f13d90405d6ae55386bd28bdd219b8a08ded1aa836efcc8b770dc7da41597c5157488d7724e03fb8d84a376a43b8f41518a11cc387b669b2ee6586"},
	{noKey, noNonce, 1, "9f07e7be5551387a98ba977c732d080dcb0f29a048e3656912c6533e32ee7aed29b721769ce64e43d57133b074d839d531ed1f28510afb45ace10a1f4b794d6f"},
	{oneKey, noNonce, 1, "3aeb5224ecf849929b9d828db1ced4dd832025e8018b8160b82284f3c949aa5a8eca00bbb4a73bdad192b5c42f73f2fd4e273644c8b36125a64addeb006c13a0"},
	{"00ff000000000000000000000000000000000000000000000000000000000000", noNonce, 2, "72d54dfbf12ec44b362692df94137f328fea8da73990265ec1bbbea1ae9af0ca13b25aa26cb4a648cb9b9d1be65b2c0924a66c54d545ec1b7374f4872e99f096"},
	{noKey, twoNonce, 0, "c2c64d378cd536374ae204b9ef933fcd1a8b2288b3dfa49672ab765b54ee27c78a970e0e955c14f3a88e741b97c286f75f8fc299e8148362fa198a39531bed6d"},
	{upFrom80, "000000000001020304050607", 0, "8ad5a08b905f81cc815040274ab29471a833b637e3fd0da508dbb8e2fdd1a646"},
	{oneKey, twoNonce, 0, "ecfa254f845f647473d3cb140da9e87606cb33066c447b87bc2666dde3fbb739"},
	{mixedKey, twoNonce, 0, "965e3bc6f9ec7ed9560808f4d229f94b137ff275ca9b3fcbdd59deaad23310ae"},
}

// publishedTexts: of RFC 8439, 2.4.2, 2.8.2 and A.2.
var publishedTexts = []struct {
	key, nonce string
	counter    uint32
	text, done string
}{
	{upFrom00, "000000000000004a00000000", 1, sunscreen, "6e2e359a2568f98041ba0728dd0d6981e97e7aec1d4360c20a27afccfd9fae0bf91b65c5524733ab8f593dabcd62b3571639d624e65152ab8f530c359f0861d807ca0dbf500d6a6156a38e088a22b65e52bc514d16ccf806818ce91ab77937365af90bbf74a35be6b40b8eedf2785e42874d"},
	{upFrom80, "070000004041424344454647", 1, sunscreen, "d31a8d34648e60db7b86afbc53ef7ec2a4aded51296e08fea9e2b5a736ee62d63dbea45e8ca9671282fafb69da92728b1a71de0a9e060b2905d6a5b67ecd3b3692ddbd7f2d778b8c9803aee328091b58fab324e4fad675945585808b4831d7bc3ff4def08e4b7a9de576d26586cec64b6116"},
	{noKey, noNonce, 0, strings.Repeat("\x00", 64), "76b8e0ada0f13d90405d6ae55386bd28bdd219b8a08ded1aa836efcc8b770dc7da41597c5157488d7724e03fb8d84a376a43b8f41518a11cc387b669b2ee6586"},
	{oneKey, twoNonce, 1, `Any submission to the IETF intended by the Contributor for publication as all or part of an IETF Internet-Draft or RFC and any statement made within the context of an IETF activity is considered an "IETF Contribution". Such statements include oral statements in IETF sessions, as well as written and electronic communications made at any time or place, which are addressed to`, "a3fbf07df3fa2fde4f376ca23e82737041605d9f4f4f57bd8cff2c1d4b7955ec2a97948bd3722915c8f3d337f7d370050e9e96d647b7c39f56e031ca5eb6250d4042e02785ececfa4b4bb5e8ead0440e20b6e8db09d881a7c6132f420e52795042bdfa7773d8a9051447b3291ce1411c680465552aa6c405b7764d5e87bea85ad00f8449ed8f72d0d662ab052691ca66424bc86d2df80ea41f43abf937d3259dc4b2d0dfb48a6c9139ddd7f76966e928e635553ba76c5c879d7b35d49eb2e62b0871cdac638939e25e8a1e0ef9d5280fa8ca328b351c3c765989cbcf3daa8b6ccc3aaf9f3979c92b3720fc88dc95ed84a1be059c6499b9fda236e7e818b04b0bc39c1e876b193bfe5569753f88128cc08aaa9b63d1a16f80ef2554d7189c411f5869ca52c5b83fa36ff216b9c1d30062bebcfd2dc5bce0911934fda79a86f6e698ced759c3ff9b6477338f3da4f9cd8514ea9982ccafb341b2384dd902f3d1ab7ac61dd29c6f21ba5b862f3730e37cfdc4fd806c22f221"},
	{mixedKey, twoNonce, 42, "'Twas brillig, and the slithy toves\nDid gyre and gimble in the wabe:\nAll mimsy were the borogoves,\nAnd the mome raths outgrabe.", "62e6347f95ed87a45ffae7426f27a1df5fb69110044c0d73118effa95b01e5cf166d3df2d721caf9b21e5fb14c616871fd84c54f9d65b283196c7fe4f60553ebf39c6402c42234e32a356b3e764312a61a5532055716ead6962568f87d3f3f7704c6a8d1bcd1bf4d50d6154b6da731b187b58dfd728afa36757a797ac188d1"},
}

// P4.1
func TestPublishedBlocks(t *testing.T) {
	for i, p := range publishedBlocks {
		block, code := chacha.Block(unhex(t, p.key), unhex(t, p.nonce), p.counter)
		if code != api.OK || len(block) != blockLen || !strings.HasPrefix(word.Hex(block), p.block) {
			t.Errorf("block %d: % x, code %d, not %s", i+1, block, code, p.block)
		}
	}
}

// P4.1, and P4.2: what was done is done back.
func TestPublishedTexts(t *testing.T) {
	for i, p := range publishedTexts {
		key, nonce := unhex(t, p.key), unhex(t, p.nonce)
		done, code := chacha.Xor(key, nonce, p.counter, []byte(p.text))
		if code != api.OK || word.Hex(done) != p.done {
			t.Errorf("text %d: % x, code %d, not %s", i+1, done, code, p.done)
		}
		if back, code := chacha.Xor(key, nonce, p.counter, unhex(t, p.done)); code != api.OK || string(back) != p.text {
			t.Errorf("text %d back: %q, code %d", i+1, back, code)
		}
	}
}

// counters: the least, the greatest, and those where a byte of the number, or its sign, turns over.
var counters = []uint32{0, 1, 2, 0xfe, 0xff, 0x100, 0xffff, 0x10000, 0xffffff, 0x1000000, 0x01020304, 0x7fffffff, 0x80000000, 0xfffffffe, greatest}

// lengths: those around a block's, and longer ones.
var lengths = []int{0, 1, 2, 3, 4, 5, 15, 16, 17, 31, 32, 33, 62, 63, 64, 65, 66, 127, 128, 129, 191, 192, 193, 255, 256, 257, 1000, 4095, 4096, 4097, 65537}

// P4.1
func TestBlocksOfManyCounters(t *testing.T) {
	for _, counter := range counters {
		checkBlock(t, row(32), other(12), counter)
		checkBlock(t, make([]byte, 32), make([]byte, 12), counter)
		checkBlock(t, bytes.Repeat([]byte{0xff}, 32), bytes.Repeat([]byte{0xff}, 12), counter)
	}
}

// P4.1: every bit of key, nonce and counter counts, and each at its place.
func TestEveryBitCounts(t *testing.T) {
	seen := map[string]bool{checkBlock(t, row(32), other(12), 7): true}
	check := func(key, nonce []byte, counter uint32) {
		t.Helper()
		block := checkBlock(t, key, nonce, counter)
		if seen[block] {
			t.Errorf("key % x, nonce % x, counter %d: a block that was there", key, nonce, counter)
		}
		seen[block] = true
	}
	for bit := range 8 * 32 {
		check(turned(row(32), bit), other(12), 7)
	}
	for bit := range 8 * 12 {
		check(row(32), turned(other(12), bit), 7)
	}
	for bit := range 32 {
		check(row(32), other(12), 7^1<<bit)
	}
}

// P4.1: every bit of a text is turned, or isn't, by its own place's bit of the stream alone.
func TestEveryBitOfATextHasItsPlace(t *testing.T) {
	text := row(130)
	done := checkText(t, row(32), other(12), 5, text)
	for bit := range 8 * len(text) {
		if got := checkText(t, row(32), other(12), 5, turned(text, bit)); !bytes.Equal(got, turned(done, bit)) {
			t.Errorf("bit %d of a text turned: another bit turned too, or none", bit)
		}
	}
}

// P4.1: texts of no bytes, of lengths around a block's, of long ones; from each counter on, so that some go on from the greatest to 0.
func TestTextsOfManyLengths(t *testing.T) {
	for n := range 300 {
		checkText(t, row(32), other(12), 1, row(n))
		checkText(t, row(32), other(12), greatest, row(n))
	}
	for _, counter := range counters {
		for _, n := range lengths {
			checkText(t, row(32), other(12), counter, row(n))
		}
	}
	const long = 1<<16*blockLen + 100 // more blocks than two bytes tell
	checkText(t, row(32), other(12), 0, row(long))
	checkText(t, row(32), other(12), greatest-1000, make([]byte, long))
}

// P4.1: no text may be nil or empty, and is no bytes.
func TestNoText(t *testing.T) {
	for _, b := range [][]byte{nil, {}, row(9)[:0], row(9)[9:]} {
		if got, code := chacha.Xor(row(32), other(12), greatest, b); code != api.OK || len(got) != 0 {
			t.Errorf("no bytes: % x, code %d", got, code)
		}
	}
}

// P4.1: a text of bytes 0 shows the stream: the blocks of the counter, the next, and so on.
func TestTheStreamIsTheBlocks(t *testing.T) {
	for _, counter := range counters {
		var want []byte
		for i := range uint32(20) {
			block, code := chacha.Block(row(32), other(12), counter+i)
			if code != api.OK {
				t.Fatalf("code %d", code)
			}
			want = append(want, block...)
		}
		for _, n := range []int{1, 63, 64, 65, 127, 128, 129, len(want) - 1, len(want)} {
			if got, code := chacha.Xor(row(32), other(12), counter, make([]byte, n)); code != api.OK || !bytes.Equal(got, want[:n]) {
				t.Errorf("from %d on, %d bytes: not the blocks, code %d", counter, n, code)
			}
		}
	}
}

// P4.1: behind the greatest counter comes 0, and the nonce beside it stays as it is, one of bytes FF too.
func TestTheStreamGoesOnFromTheGreatestCounter(t *testing.T) {
	for _, nonce := range [][]byte{make([]byte, 12), other(12), bytes.Repeat([]byte{0xff}, 12)} {
		last, _ := chacha.Block(row(32), nonce, greatest)
		zero, _ := chacha.Block(row(32), nonce, 0)
		one, code := chacha.Block(row(32), nonce, 1)
		want := append(append(last, zero...), one...)
		if got, c := chacha.Xor(row(32), nonce, greatest, make([]byte, 3*blockLen)); c != api.OK || code != api.OK || !bytes.Equal(got, want) {
			t.Errorf("nonce % x: % x, codes %d, %d, not % x", nonce, got, code, c, want)
		}
	}
}

// P4.1: ErrArg, and no bytes, for keys and nonces of each length that isn't theirs, whatever is beside them.
func TestLengthsThatAreNot(t *testing.T) {
	refused := func(key, nonce []byte) {
		t.Helper()
		for _, counter := range []uint32{0, 1, greatest} {
			if b, code := chacha.Block(key, nonce, counter); code != api.ErrArg || len(b) != 0 {
				t.Errorf("a key of %d bytes, a nonce of %d: a block of %d bytes, code %d", len(key), len(nonce), len(b), code)
			}
			for _, text := range [][]byte{nil, {}, row(1), row(64), row(100)} {
				if b, code := chacha.Xor(key, nonce, counter, text); code != api.ErrArg || len(b) != 0 {
					t.Errorf("a key of %d bytes, a nonce of %d, a text of %d: %d bytes, code %d", len(key), len(nonce), len(text), len(b), code)
				}
			}
		}
	}
	wrong := []int{255, 256, 288, 1000, 1 << 16, 1<<16 + 12, 1<<16 + 32}
	for n := range 200 {
		wrong = append(wrong, n)
	}
	for _, n := range wrong {
		if n != 32 {
			refused(row(n), other(12))
			refused(make([]byte, n, n+64), other(12))
		}
		if n != 12 {
			refused(row(32), other(n))
			refused(row(32), make([]byte, n, n+64))
		}
		if n != 32 && n != 12 {
			refused(row(n), other(n))
		}
	}
	refused(row(12), other(32)) // each has the other's length
	refused(row(16), other(8))  // as there are in other ciphers of this kind
	refused(nil, nil)
	refused(nil, other(12))
	refused(row(32), nil)
}

// P4.1: what lies in a key's or a nonce's spare room, or ahead of it, doesn't count.
func TestSpareRoomDoesNotCount(t *testing.T) {
	key, nonce := row(100), other(100)
	checkBlock(t, key[:32], nonce[:12], 3)
	checkBlock(t, key[20:52], nonce[30:42], 3)
	checkText(t, key[68:], nonce[88:], 3, row(300)[100:230])
}

// P4.2
func TestDoneTwiceItIsAsItWas(t *testing.T) {
	for _, counter := range counters {
		for _, n := range lengths {
			text := other(n)
			once, code := chacha.Xor(row(32), row(12), counter, text)
			twice, again := chacha.Xor(row(32), row(12), counter, once)
			if code != api.OK || again != api.OK || !bytes.Equal(twice, text) {
				t.Errorf("%d bytes from %d on: codes %d, %d, and it isn't as it was", n, counter, code, again)
			}
			if n >= 16 && bytes.Equal(once, text) {
				t.Errorf("%d bytes from %d on: done once it is as it was", n, counter)
			}
		}
	}
}

// P4.2: a text that is cut behind some blocks goes on from as many counters further on, behind the greatest too.
func TestACutTextGoesOn(t *testing.T) {
	text := other(10*blockLen + 17)
	for _, counter := range append(counters, greatest-3, greatest-9) {
		whole, code := chacha.Xor(row(32), row(12), counter, text)
		for blocks := range 11 {
			at := blocks * blockLen
			head, code1 := chacha.Xor(row(32), row(12), counter, text[:at])
			rest, code2 := chacha.Xor(row(32), row(12), counter+uint32(blocks), text[at:])
			if code != api.OK || code1 != api.OK || code2 != api.OK || !bytes.Equal(append(head, rest...), whole) {
				t.Errorf("from %d on, cut behind %d blocks: codes %d, %d, %d, or other bytes", counter, blocks, code, code1, code2)
			}
		}
	}
}

// P4.2: fewer bytes of a text are done as those of the whole are.
func TestFewerBytesAreTheBeginningOfMore(t *testing.T) {
	whole, _ := chacha.Xor(row(32), row(12), greatest-1, other(400))
	for n := range 401 {
		if got, code := chacha.Xor(row(32), row(12), greatest-1, other(400)[:n]); code != api.OK || !bytes.Equal(got, whole[:n]) {
			t.Errorf("%d bytes aren't the beginning of 400, code %d", n, code)
		}
	}
}

// calls are all that the layer has, each with a key, a nonce and a text.
func calls() map[string]func(rows [3][]byte) []byte {
	return map[string]func(rows [3][]byte) []byte{
		"Block": func(rows [3][]byte) []byte { b, _ := chacha.Block(rows[0], rows[1], greatest); return b },
		"Xor":   func(rows [3][]byte) []byte { b, _ := chacha.Xor(rows[0], rows[1], greatest, rows[2]); return b },
	}
}

// What is handed in isn't changed, its spare room neither, and isn't seen any more behind the call.
func TestArgumentsAreNeitherChangedNorKept(t *testing.T) {
	for _, n := range []int{0, 1, 63, 64, 65, 200} {
		for name, call := range calls() {
			whole := [3][]byte{row(150), other(150), row(n + 150)}
			rows := [3][]byte{whole[0][:32], whole[1][:12], whole[2][:n]}
			first := call(rows)
			want := bytes.Clone(first)
			if !bytes.Equal(whole[0], row(150)) || !bytes.Equal(whole[1], other(150)) || !bytes.Equal(whole[2], row(n+150)) {
				t.Errorf("%s of %d bytes: what was handed in, or its spare room, was changed", name, n)
			}
			for i := range whole {
				clear(whole[i])
			}
			if !bytes.Equal(first, want) {
				t.Errorf("%s of %d bytes, written over behind the call: % x, not % x", name, n, first, want)
			}
			if again := call(rows); !bytes.Equal(again, call([3][]byte{make([]byte, 32), make([]byte, 12), make([]byte, n)})) {
				t.Errorf("%s of %d bytes, written over ahead of another call: % x", name, n, again)
			}
			copy(rows[0], row(32))
			copy(rows[1], other(12))
			copy(rows[2], row(n))
			if again := call(rows); !bytes.Equal(again, want) {
				t.Errorf("%s of %d bytes, as they were at first: % x, not % x", name, n, again, want)
			}
		}
	}
}

// A call that is refused changes nothing either.
func TestRefusedArgumentsAreNotChanged(t *testing.T) {
	for _, n := range [][2]int{{31, 12}, {32, 13}, {0, 0}, {33, 11}} {
		for name, call := range calls() {
			whole := [3][]byte{row(150), other(150), row(250)}
			call([3][]byte{whole[0][:n[0]], whole[1][:n[1]], whole[2][:100]})
			if !bytes.Equal(whole[0], row(150)) || !bytes.Equal(whole[1], other(150)) || !bytes.Equal(whole[2], row(250)) {
				t.Errorf("%s with a key of %d bytes, a nonce of %d: what was handed in was changed", name, n[0], n[1])
			}
		}
	}
}

// The same bytes may be handed in in several places, or bytes that overlap.
func TestArgumentsThatShareMemory(t *testing.T) {
	for name, call := range calls() {
		b := row(150)
		got := call([3][]byte{b[:32], b[10:22], b[5:150]})
		want := call([3][]byte{row(150)[:32], row(150)[10:22], row(150)[5:150]})
		if !bytes.Equal(got, want) || !bytes.Equal(b, row(150)) {
			t.Errorf("%s: % x, not % x", name, got, want)
		}
	}
}

// What is answered is new memory: it may be written over, its spare room too.
func TestAnswersShareNothing(t *testing.T) {
	for _, n := range []int{1, 63, 64, 65, 200} {
		for name, call := range calls() {
			rows := [3][]byte{row(32), other(12), row(n)}
			first, second := call(rows), call(rows)
			want := bytes.Clone(second)
			clear(first[:cap(first)])
			if third := call(rows); !bytes.Equal(second, want) || !bytes.Equal(third, want) {
				t.Errorf("%s: answers share memory: % x, % x", name, second, third)
			}
			if !bytes.Equal(rows[0], row(32)) || !bytes.Equal(rows[1], other(12)) || !bytes.Equal(rows[2], row(n)) {
				t.Errorf("%s: an answer shares memory with what was handed in", name)
			}
		}
	}
}

// An answer hangs on the arguments alone, not on what was asked ahead, refused calls among that.
func TestAnswersHangOnArgumentsAlone(t *testing.T) {
	first := checkText(t, row(32), other(12), 9, row(100))
	chacha.Xor(other(32), row(12), greatest, other(1000))
	chacha.Block(other(32), row(12), 0)
	chacha.Xor(row(31), row(12), 9, row(100))
	chacha.Block(nil, nil, 9)
	if again := checkText(t, row(32), other(12), 9, row(100)); !bytes.Equal(again, first) {
		t.Errorf("% x, not % x", again, first)
	}
}

func checkBlock(t *testing.T, key, nonce []byte, counter uint32) string {
	t.Helper()
	got, code := chacha.Block(key, nonce, counter)
	if want := reference(key, nonce, counter, make([]byte, blockLen)); code != api.OK || !bytes.Equal(got, want) {
		t.Errorf("key % x, nonce % x, counter %d: % x, code %d, not % x", key, nonce, counter, got, code, want)
	}
	return string(got)
}

func checkText(t *testing.T, key, nonce []byte, counter uint32, text []byte) []byte {
	t.Helper()
	got, code := chacha.Xor(key, nonce, counter, text)
	if code != api.OK || !bytes.Equal(got, reference(key, nonce, counter, text)) {
		t.Errorf("%d bytes from %d on: %d bytes, code %d, not those of the reference", len(text), counter, len(got), code)
	}
	return got
}

// reference: a text exclusive or the stream, in another way than the layer's: the numbers lie in four rows, which are turned so that what lies aslant becomes columns.
func reference(key, nonce []byte, counter uint32, text []byte) []byte {
	first := append([]byte("expand 32-byte k"), key...)
	first = binary.LittleEndian.AppendUint32(first, counter)
	first = append(first, nonce...)
	out := bytes.Clone(text)
	for i := range out {
		if i%blockLen == 0 {
			binary.LittleEndian.PutUint32(first[48:], counter+uint32(i/blockLen))
			copy(out[i:], exclusive(out[i:], referenceBlock(first)))
		}
	}
	return out
}

func exclusive(a, b []byte) []byte {
	out := make([]byte, min(len(a), len(b)))
	for i := range out {
		out[i] = a[i] ^ b[i]
	}
	return out
}

func referenceBlock(first []byte) []byte {
	var a, b, c, d [4]uint32
	for i := range 4 {
		a[i] = binary.LittleEndian.Uint32(first[4*i:])
		b[i] = binary.LittleEndian.Uint32(first[16+4*i:])
		c[i] = binary.LittleEndian.Uint32(first[32+4*i:])
		d[i] = binary.LittleEndian.Uint32(first[48+4*i:])
	}
	for round := range 20 {
		for i := range 4 {
			a[i] += b[i]
			d[i] = bits.RotateLeft32(a[i]^d[i], 16)
			c[i] += d[i]
			b[i] = bits.RotateLeft32(b[i]^c[i], 12)
			a[i] += b[i]
			d[i] = bits.RotateLeft32(a[i]^d[i], 8)
			c[i] += d[i]
			b[i] = bits.RotateLeft32(b[i]^c[i], 7)
		}
		if round%2 == 0 {
			b, c, d = [4]uint32{b[1], b[2], b[3], b[0]}, [4]uint32{c[2], c[3], c[0], c[1]}, [4]uint32{d[3], d[0], d[1], d[2]}
		} else {
			b, c, d = [4]uint32{b[3], b[0], b[1], b[2]}, [4]uint32{c[2], c[3], c[0], c[1]}, [4]uint32{d[1], d[2], d[3], d[0]}
		}
	}
	var out []byte
	for _, four := range [][4]uint32{a, b, c, d} {
		for _, v := range four {
			out = binary.LittleEndian.AppendUint32(out, v+binary.LittleEndian.Uint32(first[len(out):]))
		}
	}
	return out
}

// turned: the same bytes, but one bit.
func turned(b []byte, bit int) []byte {
	out := bytes.Clone(b)
	out[bit/8] ^= 1 << (bit % 8)
	return out
}

func unhex(t *testing.T, text string) []byte {
	t.Helper()
	b, ok := word.Unhex(text)
	if !ok {
		t.Fatalf("%q isn't hex", text)
	}
	return b
}

// row: n bytes of which hardly two neighbours are alike, the same each time, the fewer the beginning of the more.
func row(n int) []byte { return drawn(5, n) }

// other: as row, other bytes.
func other(n int) []byte { return drawn(6, n) }

func drawn(seed int64, n int) []byte {
	b := make([]byte, n)
	rand.New(rand.NewSource(seed)).Read(b)
	return b
}
