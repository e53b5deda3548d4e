package poly_test

import (
	"bytes"
	"math/big"
	"math/rand"
	"slices"
	"strings"
	"testing"

	"orlop/api"
	"orlop/poly"
	"orlop/word"
)

const (
	keyLen   = 32
	pieceLen = 16
)

// Halves of keys, and pieces of messages, of RFC 8439, A.3.
const (
	none   = "00000000000000000000000000000000"
	one    = "01000000000000000000000000000000"
	two    = "02000000000000000000000000000000"
	full   = "ffffffffffffffffffffffffffffffff"
	fourth = "01000000000000000400000000000000"
	kept   = "36e5f6b5c5e06070f0efca96227a863e"
)

const (
	submission = `Any submission to the IETF intended by the Contributor for publication as all or part of an IETF Internet-Draft or RFC and any statement made within the context of an IETF activity is considered an "IETF Contribution". Such statements include oral statements in IETF sessions, as well as written and electronic communications made at any time or place, which are addressed to`
	jabberwock = "'Twas brillig, and the slithy toves\nDid gyre and gimble in the wabe:\nAll mimsy were the borogoves,\nAnd the mome raths outgrabe."
)

// published: of RFC 8439, 2.5.2 and A.3, and of 2.8.2, whose message is told in bytes there.
var published = []struct{ key, message, tag string }{
	{"85d6be7857556d337f4452fe42d506a80103808afb0db2fd4abff6af4149f51b", text("Cryptographic Forum Research Group"), "a8061dc1305136c6c22b8baf0c0127a9"},
	{none + none, strings.Repeat("00", 64), none},
	{none + kept, text(submission), kept},
	{kept + none, text(submission), "f3477e7cd95417af89a6b8794c310cf0"},
	{"1c9240a5eb55d38af333888604f6b5f0473917c1402b80099dca5cbc207075c0", text(jabberwock), "4541669a7eaaee61e708dc7cbcc5eb62"},
	{two + none, full, "03000000000000000000000000000000"},
	{two + full, two, "03000000000000000000000000000000"},
	{one + none, full + "f0ffffffffffffffffffffffffffffff" + "11000000000000000000000000000000", "05000000000000000000000000000000"},
	{one + none, full + "fbfefefefefefefefefefefefefefefe" + "01010101010101010101010101010101", none},
	{two + none, "fdffffffffffffffffffffffffffffff", "faffffffffffffffffffffffffffffff"},
	{fourth + none, "e33594d7505e43b900000000000000003394d7505e4379cd01000000000000000000000000000000000000000000000001000000000000000000000000000000", "14000000000000005500000000000000"},
	{fourth + none, "e33594d7505e43b900000000000000003394d7505e4379cd010000000000000000000000000000000000000000000000", "13000000000000000000000000000000"},
	{"7bac2b252db447af09b67a55a4e955840ae1d6731075d9eb2a9375783ed553ff", "50515253c0c1c2c3c4c5c6c700000000" +
		"d31a8d34648e60db7b86afbc53ef7ec2a4aded51296e08fea9e2b5a736ee62d63dbea45e8ca9671282fafb69da92728b1a71de0a9e060b2905d6a5b67ecd3b3692ddbd7f2d778b8c9803aee328091b58fab324e4fad675945585808b4831d7bc3ff4def08e4b7a9de576d26586cec64b6116" +
		"0000000000000000000000000000" + "0c000000000000007200000000000000", "1ae10b594f09e26a7e902ecbd0600691"},
}

// P5.1
func TestPublishedTags(t *testing.T) {
	for i, p := range published {
		key, message := unhex(t, p.key), unhex(t, p.message)
		if tag, code := poly.Tag(key, message); code != api.OK || word.Hex(tag) != p.tag {
			t.Errorf("tag %d: % x, code %d, not %s", i+1, tag, code, p.tag)
		}
		check(t, key, message)
	}
}

// P5.1: messages of each length, so of those around the multiples of 16, and of long ones.
func TestMessagesOfManyLengths(t *testing.T) {
	keys := [][]byte{row(keyLen), other(keyLen), bytes.Repeat([]byte{0xff}, keyLen), unhex(t, kept+full)}
	for n := range 300 {
		for _, key := range keys {
			check(t, key, row(n))
			check(t, key, make([]byte, n))
			check(t, key, bytes.Repeat([]byte{0xff}, n))
		}
	}
	for _, n := range []int{1000, 4095, 4096, 4097, 65535, 65536, 65537, 1<<20 + 1, 1<<21 - 1} {
		for _, key := range keys {
			check(t, key, row(n))
			check(t, key, bytes.Repeat([]byte{0xff}, n))
		}
	}
}

// P5.1: the byte 1 tells messages apart that differ in bytes 0 at their end alone, or in a byte 1 there.
func TestBytesAtTheEndCount(t *testing.T) {
	for _, begin := range [][]byte{nil, row(15), row(16), row(20), make([]byte, 40)} {
		seen := map[string]int{}
		for n := range 40 {
			tag := check(t, row(keyLen), append(bytes.Clone(begin), make([]byte, n)...))
			if m, ok := seen[tag]; ok {
				t.Errorf("%d bytes, and %d and %d of 0 behind: one tag", len(begin), m, n)
			}
			seen[tag] = n
		}
		if len(begin)%pieceLen == 0 {
			continue
		}
		longer := append(bytes.Clone(begin), 1)
		if tag := check(t, row(keyLen), longer); tag == check(t, row(keyLen), begin) {
			t.Errorf("%d bytes, with and without a byte 1 behind: one tag", len(begin))
		}
	}
}

// P5.1: pieces are gone over in their order, each once.
func TestTheOrderOfPiecesCounts(t *testing.T) {
	seen := map[string]bool{}
	message := row(5 * pieceLen)
	for i := range 5 {
		for j := range i {
			swapped := bytes.Clone(message)
			copy(swapped[i*pieceLen:(i+1)*pieceLen], message[j*pieceLen:])
			copy(swapped[j*pieceLen:(j+1)*pieceLen], message[i*pieceLen:])
			seen[check(t, row(keyLen), swapped)] = true
		}
	}
	seen[check(t, row(keyLen), message)] = true
	if len(seen) != 11 {
		t.Errorf("%d tags of 11 messages whose pieces lie otherwise", len(seen))
	}
}

// P5.1: with r 1 what is reckoned is the pieces' sum: each number around 2^130 - 5, and around as many times that as some more pieces come to.
func TestSumsAroundThePrime(t *testing.T) {
	for times := int64(1); times <= 6; times++ {
		count := 4*times - 1 // so many pieces make the sum with their bytes 1, and with room to spare
		for off := int64(-40); off <= 40; off++ {
			sum := new(big.Int).Mul(prime(), big.NewInt(times))
			sum.Add(sum, big.NewInt(off))
			want := new(big.Int).Mod(sum, prime())
			for _, evenly := range []bool{true, false} {
				message := adding(t, sum, count, evenly)
				tag := check(t, unhex(t, one+none), message)
				if tag != string(bytesOf(want)) {
					t.Errorf("a sum of %d times 2^130 - 5 and %d: % x", times, off, tag)
				}
				check(t, unhex(t, one+full), message)
			}
		}
	}
}

// P5.1: other keys' products, too, are made to leave a number just above 0, just below 2^130 - 5, around 2^128, or one at whose bits limbs end.
func TestProductsThatLeaveWhatIsWanted(t *testing.T) {
	wants := []*big.Int{power(26), power(32), power(52), power(64), power(78), power(96), power(104), power(127), power(128), power(129)}
	for i := range int64(8) {
		wants = append(wants, big.NewInt(i), new(big.Int).Sub(prime(), big.NewInt(i+1)), new(big.Int).Sub(power(128), big.NewInt(i+1)), new(big.Int).Add(power(128), big.NewInt(i)))
	}
	for i, want := range wants {
		for seed := range int64(6) {
			key := drawn(100*int64(i)+seed, keyLen)
			message := leaving(t, key, want)
			sum := new(big.Int).Add(want, numberOf(key[pieceLen:]))
			if tag := check(t, key, message); tag != string(bytesOf(sum)) {
				t.Errorf("key % x, message % x: % x, which isn't %v and s", key, message, tag, want)
			}
		}
	}
}

// P5.1: keys and messages all of whose bytes, or all but some at one place, are great, or 0.
func TestGreatAndSmallBytes(t *testing.T) {
	for _, most := range []byte{0, 1, 0x7f, 0x80, 0xfb, 0xfc, 0xfe, 0xff} {
		for _, least := range []byte{0, 1, 5, 0xfb, 0xff} {
			for at := range keyLen {
				key := bytes.Repeat([]byte{most}, keyLen)
				key[at] = least
				for _, n := range []int{1, 15, 16, 17, 32, 48, 64, 80} {
					message := bytes.Repeat([]byte{most}, n)
					check(t, key, message)
					message[at%n] = least
					check(t, key, message)
				}
			}
		}
	}
}

// P5.1: long rows of great bytes, so that whatever is carried too late runs over.
func TestGreatBytesForLong(t *testing.T) {
	for _, half := range []string{full, "ffffff0ffcffff0ffcffff0ffcffff0f", "00000000000000000000000000000008", "0000000000000000fcffff0ffcffff0f", "ffffff0ffcffff030000000000000000"} {
		for pieces := range 70 {
			check(t, unhex(t, half+full), bytes.Repeat([]byte{0xff}, pieces*pieceLen))
		}
		check(t, unhex(t, half+none), bytes.Repeat([]byte{0xff}, 10000*pieceLen))
	}
}

// P5.1: keys and messages of one bit, and of all bits but one.
func TestSingleBits(t *testing.T) {
	for bit := range 8 * keyLen {
		for _, key := range [][]byte{turned(make([]byte, keyLen), bit), turned(bytes.Repeat([]byte{0xff}, keyLen), bit)} {
			for _, n := range []int{3, 16, 33} {
				check(t, key, bytes.Repeat([]byte{0xff}, n))
				check(t, key, row(n))
			}
		}
	}
	for bit := range 8 * 33 {
		for _, key := range [][]byte{row(keyLen), bytes.Repeat([]byte{0xff}, keyLen)} {
			check(t, key, turned(make([]byte, 33), bit))
			check(t, key, turned(bytes.Repeat([]byte{0xff}, 33), bit))
		}
	}
}

// P5.1: many keys under many messages.
func TestManyKeysAndMessages(t *testing.T) {
	for seed := range int64(3000) {
		b := drawn(1000+seed, keyLen+200)
		check(t, b[:keyLen], b[keyLen:keyLen+int(seed%200)])
	}
}

// P5.1: keys that differ in nothing but the bits that are made 0 make one tag; any other bit makes another.
func TestBitsOfAKey(t *testing.T) {
	for _, key := range [][]byte{row(keyLen), make([]byte, keyLen), bytes.Repeat([]byte{0xff}, keyLen)} {
		for _, n := range []int{1, 16, 17, 100} {
			message := row(n)
			tag, zeros := check(t, key, message), 0
			for bit := range 8 * keyLen {
				got := check(t, turned(key, bit), message)
				if madeZero(bit) {
					zeros++
				}
				if (got == tag) != madeZero(bit) {
					t.Errorf("bit %d of a key turned, %d bytes: % x, and before % x", bit, n, got, tag)
				}
			}
			if zeros != 22 {
				t.Errorf("%d bits are made 0", zeros)
			}
			all := bytes.Clone(key)
			for bit := range 8 * pieceLen {
				if madeZero(bit) {
					all = turned(all, bit)
				}
			}
			if got := check(t, all, message); got != tag {
				t.Errorf("all bits that are made 0 turned, %d bytes: % x, and before % x", n, got, tag)
			}
		}
	}
}

// madeZero: whether this bit of a key is made 0, by the document's words.
func madeZero(bit int) bool {
	switch bit / 8 {
	case 3, 7, 11, 15:
		return bit%8 >= 4
	case 4, 8, 12:
		return bit%8 < 2
	}
	return false
}

// P5.1: a bit of s is a bit of a sum, whose bits above the tag's are let go.
func TestBitsOfS(t *testing.T) {
	key, message := row(keyLen), row(50)
	tag := numberOf([]byte(check(t, key, message)))
	for bit := range 8 * pieceLen {
		key := turned(key, 8*pieceLen+bit)
		change := power(bit)
		if key[pieceLen+bit/8]&(1<<(bit%8)) == 0 {
			change.Neg(change)
		}
		want := bytesOf(new(big.Int).Add(new(big.Int).Add(tag, change), power(200)))
		if got := check(t, key, message); got != string(want) {
			t.Errorf("bit %d of s turned: % x, not % x", bit, got, want)
		}
	}
}

// P5.1: ErrArg, and no bytes, for keys of each length that isn't theirs, whatever the message is.
func TestKeysOfOtherLengths(t *testing.T) {
	wrong := []int{255, 256, 288, 1000, 1 << 16, 1<<16 + 32}
	for n := range 200 {
		wrong = append(wrong, n)
	}
	refused := func(key []byte) {
		t.Helper()
		for _, message := range [][]byte{nil, {}, row(1), row(16), row(32), row(100)} {
			if tag, code := poly.Tag(key, message); code != api.ErrArg || len(tag) != 0 {
				t.Errorf("a key of %d bytes, a message of %d: % x, code %d", len(key), len(message), tag, code)
			}
		}
	}
	for _, n := range wrong {
		if n != keyLen {
			refused(row(n))
			refused(make([]byte, n))
			refused(row(n + 64)[:n]) // with as many bytes as a key's in its spare room
		}
	}
	refused(nil)
}

// P5.1: what lies in a key's or a message's spare room, or ahead of it, doesn't count.
func TestSpareRoomDoesNotCount(t *testing.T) {
	key, message := row(100), other(200)
	for _, n := range []int{0, 1, 15, 16, 17, 31, 32, 33, 100} {
		for _, at := range []int{0, 1, 8, 68} {
			check(t, key[at:at+keyLen], message[at:at+n])
			tag, code := poly.Tag(key[at:at+keyLen], message[at:at+n])
			want, again := poly.Tag(bytes.Clone(key[at:at+keyLen]), slices.Clip(bytes.Clone(message[at:at+n])))
			if code != api.OK || again != api.OK || !bytes.Equal(tag, want) {
				t.Errorf("%d bytes from %d on: % x, code %d; without spare room % x, code %d", n, at, tag, code, want, again)
			}
		}
	}
}

// P5.2: of no bytes it is s.
func TestOfNoBytesItIsS(t *testing.T) {
	keys := [][]byte{make([]byte, keyLen), bytes.Repeat([]byte{0xff}, keyLen), row(keyLen), other(keyLen)}
	for bit := range 8 * keyLen {
		keys = append(keys, turned(make([]byte, keyLen), bit), turned(row(keyLen), bit))
	}
	for _, key := range keys {
		for _, message := range [][]byte{nil, {}, row(40)[:0], row(40)[40:]} {
			if tag, code := poly.Tag(key, message); code != api.OK || !bytes.Equal(tag, key[pieceLen:]) {
				t.Errorf("key % x, no bytes: % x, code %d", key, tag, code)
			}
		}
	}
}

// P5.2: with r 0 it is s, whatever the message is; r is 0, too, if no bits of it are there but those that are made 0.
func TestWithRZeroItIsS(t *testing.T) {
	var keys [][]byte
	for _, half := range []string{none, "000000f0030000f0030000f0030000f0", "00000080000000800000008000000080", "00000000010000000200000003000000"} {
		for _, s := range []string{none, one, full, kept, word.Hex(row(pieceLen))} {
			keys = append(keys, unhex(t, half+s))
		}
	}
	for _, key := range keys {
		for n := range 100 {
			for _, message := range [][]byte{row(n), make([]byte, n), bytes.Repeat([]byte{0xff}, n)} {
				if tag, code := poly.Tag(key, message); code != api.OK || !bytes.Equal(tag, key[pieceLen:]) {
					t.Errorf("key % x, %d bytes: % x, code %d", key, n, tag, code)
				}
			}
		}
		if tag, code := poly.Tag(key, row(1<<16+5)); code != api.OK || !bytes.Equal(tag, key[pieceLen:]) {
			t.Errorf("key % x, many bytes: % x, code %d", key, tag, code)
		}
	}
}

// What is handed in isn't changed, its spare room neither, and isn't seen any more behind the call; what is answered is new memory.
func TestArgumentsAreNeitherChangedNorKept(t *testing.T) {
	for _, n := range []int{0, 1, 15, 16, 17, 31, 32, 33, 200} {
		key, message := row(150), other(n+150)
		tag, code := poly.Tag(key[:keyLen], message[:n])
		want := bytes.Clone(tag)
		if code != api.OK || !bytes.Equal(key, row(150)) || !bytes.Equal(message, other(n+150)) {
			t.Errorf("%d bytes: code %d, or what was handed in, or its spare room, was changed", n, code)
		}
		clear(key)
		clear(message)
		if !bytes.Equal(tag, want) {
			t.Errorf("%d bytes, written over behind the call: % x, not % x", n, tag, want)
		}
		check(t, key[:keyLen], message[:n])
		copy(key, row(keyLen))
		copy(message, other(n))
		if again := check(t, key[:keyLen], message[:n]); again != string(want) {
			t.Errorf("%d bytes, as they were at first: % x, not % x", n, again, want)
		}
	}
}

// A call that is refused changes nothing either.
func TestRefusedArgumentsAreNotChanged(t *testing.T) {
	for _, n := range []int{0, 1, 16, 31, 33, 64} {
		key, message := row(150), other(150)
		poly.Tag(key[:n], message[:100])
		if !bytes.Equal(key, row(150)) || !bytes.Equal(message, other(150)) {
			t.Errorf("a key of %d bytes: what was handed in was changed", n)
		}
	}
}

// Key and message may be the same bytes, or bytes that overlap.
func TestArgumentsThatShareMemory(t *testing.T) {
	b := row(150)
	for _, at := range [][2]int{{0, 32}, {0, 150}, {16, 150}, {20, 52}, {31, 33}} {
		got := check(t, b[:keyLen], b[at[0]:at[1]])
		want := check(t, row(keyLen), row(150)[at[0]:at[1]])
		if got != want || !bytes.Equal(b, row(150)) {
			t.Errorf("a message from %d to %d of a key's bytes: % x, not % x", at[0], at[1], got, want)
		}
	}
}

// What is answered is new memory: it may be written over, its spare room too.
func TestAnswersShareNothing(t *testing.T) {
	for _, n := range []int{0, 1, 16, 33, 200} {
		for _, key := range [][]byte{row(keyLen), make([]byte, keyLen)} {
			whole, message := bytes.Clone(key), row(n)
			first, _ := poly.Tag(whole, message)
			second, _ := poly.Tag(whole, message)
			want := bytes.Clone(second)
			for i := range first[:cap(first)] {
				first[:cap(first)][i] ^= 0xff
			}
			third, _ := poly.Tag(whole, message)
			if !bytes.Equal(second, want) || !bytes.Equal(third, want) {
				t.Errorf("%d bytes: answers share memory: % x, % x, not % x", n, second, third, want)
			}
			if !bytes.Equal(whole, key) || !bytes.Equal(message, row(n)) {
				t.Errorf("%d bytes: an answer shares memory with what was handed in", n)
			}
		}
	}
}

// An answer hangs on the arguments alone, not on what was asked ahead, refused calls among that.
func TestAnswersHangOnArgumentsAlone(t *testing.T) {
	first := check(t, row(keyLen), row(100))
	poly.Tag(other(keyLen), other(1000))
	poly.Tag(other(31), row(100))
	poly.Tag(nil, nil)
	poly.Tag(bytes.Repeat([]byte{0xff}, keyLen), nil)
	if again := check(t, row(keyLen), row(100)); again != first {
		t.Errorf("% x, not % x", again, first)
	}
}

// check: the tag, which must be the reference's.
func check(t *testing.T, key, message []byte) string {
	t.Helper()
	got, code := poly.Tag(key, message)
	if want := reference(key, message); code != api.OK || !bytes.Equal(got, want) {
		t.Errorf("key % x, %d bytes, first % x: % x, code %d, not % x", key, len(message), message[:min(len(message), 48)], got, code, want)
	}
	return string(got)
}

// reference: a message's tag by numbers of any size, which are worked as the document's words say.
func reference(key, message []byte) []byte {
	a := referenceA(key, message)
	return bytesOf(a.Add(a, numberOf(key[pieceLen:])))
}

// referenceA: what a is ahead of the addition of s.
func referenceA(key, message []byte) *big.Int {
	r, a, m := referenceR(key), new(big.Int), prime()
	for piece := range slices.Chunk(message, pieceLen) {
		a.Add(a, numberOf(append(bytes.Clone(piece), 1)))
		a.Mul(a, r)
		a.Mod(a, m)
	}
	return a
}

func referenceR(key []byte) *big.Int {
	r := numberOf(key[:pieceLen])
	for bit := range 8 * pieceLen {
		if madeZero(bit) {
			r.SetBit(r, bit, 0)
		}
	}
	return r
}

// leaving: a message of some pieces of which, ahead of s, this is left.
func leaving(t *testing.T, key []byte, want *big.Int) []byte {
	t.Helper()
	back := new(big.Int).ModInverse(referenceR(key), prime())
	for seed := range int64(1000) {
		begin := drawn(7000+seed, int(seed%5)*pieceLen)
		last := new(big.Int).Mul(want, back)
		last.Sub(last, referenceA(key, begin))
		last.Mod(last, prime())
		if last.BitLen() == 129 { // so a byte 1 lies behind 16 others
			return append(begin, bytesOf(last)...)
		}
	}
	t.Fatalf("key % x: no message leaves %v", key, want)
	return nil
}

// adding: so many whole pieces that have this sum: either each has its part, or the first have all that they can.
func adding(t *testing.T, sum *big.Int, count int64, evenly bool) []byte {
	t.Helper()
	rest := new(big.Int).Sub(sum, new(big.Int).Mul(power(128), big.NewInt(count)))
	most := new(big.Int).Sub(power(128), big.NewInt(1))
	var message []byte
	for i := range count {
		part := new(big.Int).Set(rest)
		if evenly {
			part.Div(part, big.NewInt(count-i))
		}
		if part.Cmp(most) > 0 {
			part.Set(most)
		}
		message = append(message, bytesOf(part)...)
		rest.Sub(rest, part)
	}
	if rest.Sign() != 0 {
		t.Fatalf("%d pieces don't make %v", count, sum)
	}
	return message
}

// prime: 2^130 - 5.
func prime() *big.Int { return new(big.Int).Sub(power(130), big.NewInt(5)) }

func power(bit int) *big.Int { return new(big.Int).Lsh(big.NewInt(1), uint(bit)) }

// numberOf: the number of the bytes, the least first.
func numberOf(b []byte) *big.Int {
	turned := bytes.Clone(b)
	slices.Reverse(turned)
	return new(big.Int).SetBytes(turned)
}

// bytesOf: the number's first 16 bytes, the least first.
func bytesOf(v *big.Int) []byte {
	out := new(big.Int).Mod(v, power(128)).FillBytes(make([]byte, pieceLen))
	slices.Reverse(out)
	return out
}

func text(s string) string { return word.Hex([]byte(s)) }

// turned: the same bytes, but one bit.
func turned(b []byte, bit int) []byte {
	out := bytes.Clone(b)
	out[bit/8] ^= 1 << (bit % 8)
	return out
}

func unhex(t *testing.T, text string) []byte {
	t.Helper()
	b, ok := word.Unhex(text)
	if !ok {
		t.Fatalf("%q isn't hex", text)
	}
	return b
}

// row: n bytes of which hardly two neighbours are alike, the same each time, the fewer the beginning of the more.
func row(n int) []byte { return drawn(5, n) }

// other: as row, other bytes.
func other(n int) []byte { return drawn(6, n) }

func drawn(seed int64, n int) []byte {
	b := make([]byte, n)
	rand.New(rand.NewSource(seed)).Read(b)
	return b
}
