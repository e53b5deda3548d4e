package aead_test

import (
	"bytes"
	"encoding/binary"
	"math/rand"
	"slices"
	"testing"

	"orlop/aead"
	"orlop/api"
	"orlop/chacha"
	"orlop/poly"
	"orlop/word"
)

const (
	keyLen   = 32
	nonceLen = 12
	tagLen   = 16
	pieceLen = 16
	blockLen = 64
)

// published: of RFC 8439, 2.8.2 and A.5 (2.8.2's key and nonce with no bytes, too), and of Wycheproof, whose texts have no bytes, or one.
var published = []struct{ key, nonce, beside, text, box string }{
	{
		"808182838485868788898a8b8c8d8e8f909192939495969798999a9b9c9d9e9f", "070000004041424344454647", "50515253c0c1c2c3c4c5c6c7",
		word.Hex([]byte("Ladies and Gentlemen of the class of '99: If I could offer you only one tip for the future, sunscreen would be it.")),
		"d31a8d34648e60db7b86afbc53ef7ec2a4aded51296e08fea9e2b5a736ee62d63dbea45e8ca9671282fafb69da92728b1a71de0a9e060b2905d6a5b67ecd3b3692ddbd7f2d778b8c9803aee328091b58fab324e4fad675945585808b4831d7bc3ff4def08e4b7a9de576d26586cec64b6116" +
			"1ae10b594f09e26a7e902ecbd0600691",
	},
	{
		"1c9240a5eb55d38af333888604f6b5f0473917c1402b80099dca5cbc207075c0", "000000000102030405060708", "f33388860000000000004e91",
		word.Hex([]byte("Internet-Drafts are draft documents valid for a maximum of six months and may be updated, replaced, or obsoleted by other documents at any time. It is inappropriate to use Internet-Drafts as reference material or to cite them other than as /“work in progress./”")),
		"64a0861575861af460f062c79be643bd5e805cfd345cf389f108670ac76c8cb24c6cfc18755d43eea09ee94e382d26b0bdb7b73c321b0100d4f03b7f355894cf332f830e710b97ce98c8a84abd0b948114ad176e008d33bd60f982b1ff37c8559797a06ef4f0ef61c186324e2b3506383606907b6a7c02b0f9f6157b53c867e4b9166c767b804d46a59b5216cde7a4e99040c5a40433225ee282a1b0a06c523eaf4534d7f83fa1155b0047718cbc546a0d072b04b3564eea1b422273f548271a0bb2316053fa76991955ebd63159434ecebb4e466dae5a1073a6727627097a1049e617d91d361094fa68f0ff77987130305beaba2eda04df997b714d6c6f2c29a6ad5cb4022b02709b" +
			"eead9d67890cbb22392336fea1851f38",
	},
	{"808182838485868788898a8b8c8d8e8f909192939495969798999a9b9c9d9e9f", "070000004041424344454647", "", "", "a0784d7a4716f3feb4f64e7f4b39bf04"},
	{"80ba3192c803ce965ea371d5ff073cf0f43b6a2ab576b208426e11409c09b9b0", "4da5bf8dfd5852c1ea12379d", "", "", "76acb342cf3166a5b63c0c0ea1383c8d"},
	{"7a4cd759172e02eb204db2c3f5c746227df584fc1345196391dbb9577a250742", "a92ef0ac991dd516a3c6f689", "bd506764f2d2c410", "", "906fa6284b52f87b7359cbaa7563c709"},
	{"cc56b680552eb75008f5484b4cb803fa5063ebd6eab91f6ab6aef4916a766273", "99e23ec48985bccdeeab60f1", "", "2a", "3acac27dec0968801e9f6eded69d807522"},
	{"46f0254965f769d52bdb4a70b443199f8ef207520d1220c55e4b70f0fda620ee", "ab0dca716ee051d2782f4403", "91ca6c592cbcca53", "51", "c4168310ca45b1f7c66cad4e99e43f72b9"},
}

// lengths: those around the multiples of 16 and of 64, and longer ones.
var lengths = []int{0, 1, 2, 7, 8, 14, 15, 16, 17, 30, 31, 32, 33, 47, 48, 49, 62, 63, 64, 65, 66, 79, 80, 81, 127, 128, 129, 191, 192, 193, 255, 256, 257, 1000, 4095, 4096, 4097}

// few of these lengths, where each costs much.
var few = []int{0, 1, 15, 16, 17, 63, 64, 65, 130}

// P6.1, and P6.2: what was sealed is opened.
func TestPublishedBoxes(t *testing.T) {
	for i, p := range published {
		key, nonce, beside, text := unhex(t, p.key), unhex(t, p.nonce), unhex(t, p.beside), unhex(t, p.text)
		if box, code := aead.Seal(key, nonce, beside, text); code != api.OK || word.Hex(box) != p.box {
			t.Errorf("box %d: % x, code %d, not %s", i+1, box, code, p.box)
		}
		if got, code := aead.Open(key, nonce, beside, unhex(t, p.box)); code != api.OK || !bytes.Equal(got, text) {
			t.Errorf("text %d: %q, code %d, not %q", i+1, got, code, text)
		}
		for bit := range 4 * len(p.box) {
			refused(t, key, nonce, beside, turned(unhex(t, p.box), bit), api.ErrAuth)
		}
	}
}

// P6.1, P6.2: texts and rows said beside, of these lengths each with each.
func TestEachLengthWithEach(t *testing.T) {
	for _, besides := range lengths {
		for _, texts := range lengths {
			sealed(t, row(keyLen), other(nonceLen), row(besides), other(texts))
			sealed(t, other(keyLen), row(nonceLen), make([]byte, besides), make([]byte, texts))
		}
	}
}

// P6.1, P6.2: every length up to some blocks.
func TestEveryLength(t *testing.T) {
	for n := range 300 {
		sealed(t, row(keyLen), other(nonceLen), other(n), row(n))
		sealed(t, row(keyLen), other(nonceLen), other(20), row(n))
		sealed(t, row(keyLen), other(nonceLen), other(n), row(20))
	}
}

// P6.1, P6.2: long ones, whose lengths fill two, three and four bytes; these bytes lie at the end of what is tagged.
func TestLongTextsAndRows(t *testing.T) {
	for _, n := range []int{1<<16 - 1, 1 << 16, 1<<16 + 1, 1<<20 + 15} {
		for _, few := range []int{0, 1, 16, 65, 1<<16 + 3} {
			sealed(t, row(keyLen), other(nonceLen), row(few), other(n))
			sealed(t, row(keyLen), other(nonceLen), row(n), other(few))
		}
	}
	sealed(t, row(keyLen), other(nonceLen), row(1<<24+17), other(3))
	sealed(t, row(keyLen), other(nonceLen), row(3), other(1<<24+17))
}

// P6.1, P6.2: keys, nonces, rows and texts whose bytes are all 0, or FF, and many others.
func TestManyKeysAndNonces(t *testing.T) {
	for _, v := range []byte{0, 1, 0x7f, 0x80, 0xff} {
		for _, w := range []byte{0, 0xff} {
			for _, n := range few {
				sealed(t, bytes.Repeat([]byte{v}, keyLen), bytes.Repeat([]byte{w}, nonceLen), bytes.Repeat([]byte{v}, n), bytes.Repeat([]byte{w}, n))
			}
		}
	}
	for seed := range int64(1000) {
		b := drawn(100+seed, keyLen+nonceLen+400)
		at := keyLen + nonceLen + int(seed%200)
		sealed(t, b[:keyLen], b[keyLen:keyLen+nonceLen], b[keyLen+nonceLen:at], b[at:at+int(seed%190)])
	}
}

// P6.1: no bytes may be nil or empty, beside or in a text, and are the same.
func TestNoBytes(t *testing.T) {
	none := [][]byte{nil, {}, row(9)[:0], row(9)[9:]}
	for _, n := range []int{0, 1, 16, 33} {
		with, beside := sealed(t, row(keyLen), other(nonceLen), nil, row(n)), sealed(t, row(keyLen), other(nonceLen), row(n), nil)
		for _, no := range none {
			if box := sealed(t, row(keyLen), other(nonceLen), no, row(n)); !bytes.Equal(box, with) {
				t.Errorf("nothing said beside %d bytes: % x, not % x", n, box, with)
			}
			if box := sealed(t, row(keyLen), other(nonceLen), row(n), no); !bytes.Equal(box, beside) {
				t.Errorf("no text beside %d bytes: % x, not % x", n, box, beside)
			}
		}
	}
}

// P6.1: ErrArg, and no bytes, for keys and nonces of each length that isn't theirs, ahead of what a box is refused for.
func TestKeysAndNoncesOfOtherLengths(t *testing.T) {
	boxes := [][]byte{nil, {}, row(tagLen), row(100), sealed(t, row(keyLen), other(nonceLen), row(20), row(40))}
	for n := range tagLen {
		boxes = append(boxes, row(n))
	}
	wrong := []int{255, 256, 288, 1000, 1 << 16, 1<<16 + nonceLen, 1<<16 + keyLen}
	for n := range 200 {
		wrong = append(wrong, n)
	}
	for _, n := range wrong {
		if n != keyLen {
			noSuch(t, row(n), other(nonceLen), boxes)
			noSuch(t, row(n + keyLen)[:n], other(nonceLen), boxes) // with as many bytes as a key's in its spare room
		}
		if n != nonceLen {
			noSuch(t, row(keyLen), other(n), boxes)
			noSuch(t, row(keyLen), other(n + nonceLen)[:n], boxes)
		}
		if n != keyLen && n != nonceLen {
			noSuch(t, row(n), other(n), boxes)
		}
	}
	noSuch(t, row(nonceLen), other(keyLen), boxes) // each has the other's length
	noSuch(t, row(keyLen), other(24), boxes)       // as there are in another cipher of this kind
	noSuch(t, nil, nil, boxes)
	noSuch(t, nil, other(nonceLen), boxes)
	noSuch(t, row(keyLen), nil, boxes)
}

// noSuch: with this key and nonce no text is sealed, and no box opened.
func noSuch(t *testing.T, key, nonce []byte, boxes [][]byte) {
	t.Helper()
	for _, box := range boxes {
		refused(t, key, nonce, row(20), box, api.ErrArg)
		got, code := aead.Seal(key, nonce, row(20), box)
		if code != api.ErrArg || cap(got) != 0 {
			t.Errorf("a key of %d bytes, a nonce of %d, a text of %d: % x, code %d", len(key), len(nonce), len(box), got, code)
		}
	}
}

// P6.1: ErrFormat, and no bytes, for boxes of each length from 0 to 15, whatever they are: of any bytes, the beginning or the end of a box, even one whose other bytes lie in the spare room.
func TestBoxesOfFewerBytesThanATag(t *testing.T) {
	for n := range tagLen {
		for _, beside := range [][]byte{nil, row(1), row(16), row(100)} {
			for _, text := range [][]byte{nil, row(1), row(16), row(100)} {
				box := sealed(t, row(keyLen), other(nonceLen), beside, text)
				for _, short := range [][]byte{row(n), make([]byte, n), box[:n], slices.Clone(box[:n]), box[len(box)-n:]} {
					refused(t, row(keyLen), other(nonceLen), beside, short, api.ErrFormat)
				}
			}
		}
	}
	refused(t, row(keyLen), other(nonceLen), nil, nil, api.ErrFormat)
}

// P6.1: 16 bytes are a box: no text's, if they are its tag; else nobody's.
func TestBoxesOfNoText(t *testing.T) {
	for _, n := range lengths {
		box := sealed(t, row(keyLen), other(nonceLen), row(n), nil)
		if len(box) != tagLen {
			t.Fatalf("a box of no text has %d bytes", len(box))
		}
		for _, b := range [][]byte{make([]byte, tagLen), row(tagLen), bytes.Repeat([]byte{0xff}, tagLen)} {
			refused(t, row(keyLen), other(nonceLen), row(n), b, api.ErrAuth)
		}
	}
}

// P6.1: ErrAuth, and no bytes, for a box one bit of which is turned, be it in the hidden text or in the tag.
func TestTurnedBits(t *testing.T) {
	for _, besides := range []int{0, 1, 16, 40} {
		for _, texts := range few {
			box := sealed(t, row(keyLen), other(nonceLen), row(besides), other(texts))
			for bit := range 8 * len(box) {
				refused(t, row(keyLen), other(nonceLen), row(besides), turned(box, bit), api.ErrAuth)
			}
		}
	}
}

// P6.1: likewise one of whose bytes is any other one, two of whose bytes are changed alike, or have changed places.
func TestOtherBytes(t *testing.T) {
	box := sealed(t, row(keyLen), other(nonceLen), row(9), other(35))
	for at := range box {
		for change := range 255 {
			bad := bytes.Clone(box)
			bad[at] ^= byte(change + 1)
			refused(t, row(keyLen), other(nonceLen), row(9), bad, api.ErrAuth)
		}
		for second := range at {
			for _, change := range []byte{1, 0x80, 0xff} {
				bad := bytes.Clone(box)
				bad[at] ^= change
				bad[second] ^= change
				refused(t, row(keyLen), other(nonceLen), row(9), bad, api.ErrAuth)
			}
			bad := bytes.Clone(box)
			bad[at], bad[second] = bad[second], bad[at]
			if !bytes.Equal(bad, box) {
				refused(t, row(keyLen), other(nonceLen), row(9), bad, api.ErrAuth)
			}
		}
	}
}

// P6.1: a byte more, at each place, or a byte fewer; a byte 0 at the hidden text's end, too, which is as what fills it up.
func TestBoxesWithAByteMoreOrFewer(t *testing.T) {
	for _, texts := range few {
		box := sealed(t, row(keyLen), other(nonceLen), row(10), other(texts))
		for at := range len(box) + 1 {
			for _, v := range []byte{0, 1, 0xff, box[min(at, len(box)-1)]} {
				refused(t, row(keyLen), other(nonceLen), row(10), slices.Insert(bytes.Clone(box), at, v), api.ErrAuth)
			}
		}
		code := api.ErrAuth
		if texts == 0 {
			code = api.ErrFormat
		}
		for at := range box {
			refused(t, row(keyLen), other(nonceLen), row(10), slices.Delete(bytes.Clone(box), at, at+1), code)
		}
	}
}

// P6.1: parts of a box: the tag alone, the hidden text alone, the tag ahead of the hidden text, two boxes, tags that are another box's.
func TestPartsOfBoxes(t *testing.T) {
	box := sealed(t, row(keyLen), other(nonceLen), row(10), other(64))
	hidden, tag := box[:64], box[64:]
	another := sealed(t, row(keyLen), other(nonceLen), row(10), row(64))
	for _, bad := range [][]byte{
		tag, hidden, slices.Concat(tag, hidden), slices.Concat(box, box), slices.Concat(hidden, hidden, tag), slices.Concat(box, tag),
		slices.Concat(hidden[:48], tag), slices.Concat(hidden[16:], tag), slices.Concat(hidden[32:], hidden[:32], tag),
		slices.Concat(hidden, another[64:]), slices.Concat(another[:64], tag),
	} {
		refused(t, row(keyLen), other(nonceLen), row(10), bad, api.ErrAuth)
	}
}

// P6.1: ErrAuth, and no bytes, with another key, another nonce, or another row said beside: each bit counts, and how many bytes there are.
func TestOtherKeysNoncesAndRows(t *testing.T) {
	for _, n := range few {
		key, nonce, beside := row(keyLen), other(nonceLen), row(n)
		box := sealed(t, key, nonce, beside, other(40))
		for bit := range 8 * keyLen {
			refused(t, turned(key, bit), nonce, beside, box, api.ErrAuth)
		}
		for bit := range 8 * nonceLen {
			refused(t, key, turned(nonce, bit), beside, box, api.ErrAuth)
		}
		for bit := range 8 * n {
			refused(t, key, nonce, turned(beside, bit), box, api.ErrAuth)
		}
		for at := range n + 1 {
			refused(t, key, nonce, slices.Insert(bytes.Clone(beside), at, 0), box, api.ErrAuth)
			if at < n {
				refused(t, key, nonce, beside[:at], box, api.ErrAuth)
				refused(t, key, nonce, beside[at+1:], box, api.ErrAuth)
			}
		}
	}
}

// P6.1: bytes moved from the row said beside to the hidden text, or back: of one row of bytes, which may all be 0, the one cut alone is opened at which it was sealed.
func TestBytesMovedBesideOrBack(t *testing.T) {
	for _, whole := range [][]byte{row(70), make([]byte, 70)} {
		for cut := range len(whole) + 1 {
			box := sealed(t, row(keyLen), other(nonceLen), whole[:cut], shown(t, whole[cut:]))
			if !bytes.Equal(box[:len(box)-tagLen], whole[cut:]) {
				t.Fatalf("cut at %d: the hidden text is % x", cut, box)
			}
			for at := range len(whole) + 1 {
				if moved := slices.Concat(whole[at:], box[len(box)-tagLen:]); at != cut {
					refused(t, row(keyLen), other(nonceLen), whole[:at], moved, api.ErrAuth)
				}
			}
		}
	}
}

// P6.1: rows of bytes 0, which what they are filled up with is like: each pair of lengths has a tag of its own.
func TestEachPairOfLengthsHasItsTag(t *testing.T) {
	seen := map[string][2]int{}
	for besides := range 50 {
		for texts := range 50 {
			box := sealed(t, row(keyLen), other(nonceLen), make([]byte, besides), shown(t, make([]byte, texts)))
			tag := string(box[texts:])
			if pair, ok := seen[tag]; ok {
				t.Errorf("%d and %d bytes 0: the tag of %v", besides, texts, pair)
			}
			seen[tag] = [2]int{besides, texts}
		}
	}
}

// P6.1: the row said beside and the hidden text don't change places, nor is all that is tagged a row said beside.
func TestPartsThatChangePlaces(t *testing.T) {
	for _, n := range []int{1, 16, 32, 48} {
		a, b := row(n), other(n)
		box := sealed(t, row(keyLen), other(nonceLen), a, shown(t, b))
		tag := box[n:]
		refused(t, row(keyLen), other(nonceLen), b, slices.Concat(a, tag), api.ErrAuth)
		refused(t, row(keyLen), other(nonceLen), nil, slices.Concat(a, b, tag), api.ErrAuth)
		refused(t, row(keyLen), other(nonceLen), slices.Concat(a, b), tag, api.ErrAuth)
		refused(t, row(keyLen), other(nonceLen), message(a, b), tag, api.ErrAuth)
		refused(t, row(keyLen), other(nonceLen), nil, slices.Concat(message(a, b), tag), api.ErrAuth)
	}
}

// P6.2: a box that is opened is the one that its text is sealed to, wherever it comes from: here its bytes, but the tag, are any.
func TestABoxThatIsOpenedIsItsTexts(t *testing.T) {
	for _, besides := range few {
		for _, n := range lengths {
			hidden, beside := drawn(int64(900+n), n), row(besides)
			box := append(hidden, referenceTag(t, row(keyLen), other(nonceLen), beside, hidden)...)
			text, code := aead.Open(row(keyLen), other(nonceLen), beside, box)
			again, sealing := aead.Seal(row(keyLen), other(nonceLen), beside, text)
			if code != api.OK || sealing != api.OK || len(box) != len(text)+tagLen || !bytes.Equal(again, box) {
				t.Errorf("%d bytes beside, %d hidden: %d bytes, codes %d, %d, sealed again another box", besides, n, len(text), code, sealing)
			}
		}
	}
}

// P6.1: what lies in spare room, or ahead of what is handed in, doesn't count.
func TestSpareRoomDoesNotCount(t *testing.T) {
	key, nonce, beside, text := row(100), other(100), drawn(7, 200), drawn(8, 200)
	for _, n := range few {
		for _, at := range []int{0, 1, 16, 68} {
			box := sealed(t, key[at:at+keyLen], nonce[at:at+nonceLen], beside[at:at+n], text[at:at+n])
			want := sealed(t, slices.Clip(bytes.Clone(key[at:at+keyLen])), slices.Clip(bytes.Clone(nonce[at:at+nonceLen])), slices.Clip(bytes.Clone(beside[at:at+n])), slices.Clip(bytes.Clone(text[at:at+n])))
			if !bytes.Equal(box, want) {
				t.Errorf("%d bytes from %d on: % x; without spare room % x", n, at, box, want)
			}
		}
	}
}

// calls are all that the layer has, each with a key, a nonce, a row said beside, and a text or a box.
func calls() map[string]func(rows [4][]byte) ([]byte, api.Code) {
	return map[string]func(rows [4][]byte) ([]byte, api.Code){
		"Seal": func(rows [4][]byte) ([]byte, api.Code) { return aead.Seal(rows[0], rows[1], rows[2], rows[3]) },
		"Open": func(rows [4][]byte) ([]byte, api.Code) { return aead.Open(rows[0], rows[1], rows[2], rows[3]) },
	}
}

// handedIn: what calls take, each with other bytes in its spare room; the last of them is a box, which may be sealed again. And what memory all that lies in.
func handedIn(t *testing.T, besides, texts int) (rows, whole [4][]byte) {
	t.Helper()
	rows = [4][]byte{row(keyLen), other(nonceLen), drawn(7, besides), sealed(t, row(keyLen), other(nonceLen), drawn(7, besides), drawn(8, texts))}
	for i, b := range rows {
		whole[i] = append(b, drawn(int64(20+i), 150)...)
		rows[i] = whole[i][:len(b)]
	}
	return rows, whole
}

// What is handed in isn't changed, its spare room neither, and isn't seen any more behind the call.
func TestArgumentsAreNeitherChangedNorKept(t *testing.T) {
	for _, besides := range few {
		for _, texts := range few {
			for name, call := range calls() {
				rows, whole := handedIn(t, besides, texts)
				kept := copied(whole)
				got, code := call(rows)
				want := bytes.Clone(got)
				if code != api.OK || !alike(whole, kept) {
					t.Errorf("%s, %d bytes beside, a text of %d: code %d, or what was handed in, or its spare room, was changed", name, besides, texts, code)
				}
				for i := range whole {
					clear(whole[i])
				}
				if !bytes.Equal(got, want) {
					t.Errorf("%s, %d bytes beside, a text of %d, written over behind the call: % x, not % x", name, besides, texts, got, want)
				}
				if got, code := call(rows); code == api.OK && bytes.Equal(got, want) {
					t.Errorf("%s, %d bytes beside, a text of %d, written over ahead of another call: as if it weren't", name, besides, texts)
				}
				for i := range whole {
					copy(whole[i], kept[i])
				}
				if again, code := call(rows); code != api.OK || !bytes.Equal(again, want) {
					t.Errorf("%s, %d bytes beside, a text of %d, as they were at first: % x, code %d, not % x", name, besides, texts, again, code, want)
				}
			}
		}
	}
}

// A call that is refused changes nothing either.
func TestRefusedArgumentsAreNotChanged(t *testing.T) {
	for _, texts := range few {
		for name, call := range calls() {
			rows, whole := handedIn(t, 30, texts)
			rows[3][0] ^= 1
			kept := copied(whole)
			for _, wrong := range [][4][]byte{
				{rows[0][:31], rows[1], rows[2], rows[3]}, {whole[0][:33], rows[1], rows[2], rows[3]}, {rows[0], rows[1][:11], rows[2], rows[3]},
				{rows[0], whole[1][:13], rows[2], rows[3]}, {rows[0][:0], rows[1][:0], rows[2], rows[3]}, {rows[0], rows[1], rows[2], rows[3][:15]}, rows,
			} {
				call(wrong)
				if !alike(whole, kept) {
					t.Errorf("%s of %d bytes: what was handed in was changed", name, texts)
				}
			}
		}
	}
}

// The same bytes may be handed in in several places, or bytes that overlap; a box may be opened with itself beside it, if it was sealed so.
func TestArgumentsThatShareMemory(t *testing.T) {
	for _, at := range [][4]int{{0, 150, 0, 150}, {10, 40, 20, 60}, {32, 32, 0, 12}, {5, 150, 5, 150}} {
		b := row(150)
		box := sealed(t, b[:keyLen], b[10:10+nonceLen], b[at[0]:at[1]], b[at[2]:at[3]])
		want := sealed(t, row(150)[:keyLen], row(150)[10:10+nonceLen], row(150)[at[0]:at[1]], row(150)[at[2]:at[3]])
		if !bytes.Equal(box, want) || !bytes.Equal(b, row(150)) {
			t.Errorf("bytes %v of one row: % x, not % x", at, box, want)
		}
	}
	for _, n := range few {
		hidden := row(n)
		box := append(hidden, referenceTag(t, row(keyLen), other(nonceLen), hidden, hidden)...)
		text, code := aead.Open(row(keyLen), other(nonceLen), box[:n], box)
		if code != api.OK || !bytes.Equal(text, shown(t, hidden)) {
			t.Errorf("a box of %d hidden bytes, these beside: %d bytes, code %d", n, len(text), code)
		}
	}
}

// What is answered is new memory: it may be written over, its spare room too.
func TestAnswersShareNothing(t *testing.T) {
	for _, texts := range few {
		for name, call := range calls() {
			rows, whole := handedIn(t, 30, texts)
			kept := copied(whole)
			first, _ := call(rows)
			second, _ := call(rows)
			want := bytes.Clone(second)
			for i := range first[:cap(first)] {
				first[:cap(first)][i] ^= 0xff
			}
			if third, _ := call(rows); !bytes.Equal(second, want) || !bytes.Equal(third, want) {
				t.Errorf("%s of %d bytes: answers share memory: % x, % x, not % x", name, texts, second, third, want)
			}
			if !alike(whole, kept) {
				t.Errorf("%s of %d bytes: an answer shares memory with what was handed in", name, texts)
			}
		}
	}
}

// An answer hangs on the arguments alone, not on what was asked ahead, refused calls among that.
func TestAnswersHangOnArgumentsAlone(t *testing.T) {
	first := sealed(t, row(keyLen), other(nonceLen), row(50), row(100))
	aead.Seal(other(keyLen), row(nonceLen), other(50), other(1000))
	aead.Open(row(keyLen), other(nonceLen), row(50), turned(first, 3))
	aead.Open(row(keyLen), other(nonceLen), row(50), first[:9])
	aead.Seal(row(31), other(nonceLen), row(50), row(100))
	aead.Open(nil, nil, nil, nil)
	if again := sealed(t, row(keyLen), other(nonceLen), row(50), row(100)); !bytes.Equal(again, first) {
		t.Errorf("% x, not % x", again, first)
	}
}

// sealed: a text's box, which must be the reference's, and have 16 bytes more, and be opened.
func sealed(t *testing.T, key, nonce, beside, text []byte) []byte {
	t.Helper()
	box, code := aead.Seal(key, nonce, beside, text)
	hidden := referenceHidden(t, key, nonce, text)
	if want := append(hidden, referenceTag(t, key, nonce, beside, hidden)...); code != api.OK || len(box) != len(text)+tagLen || !bytes.Equal(box, want) {
		t.Errorf("%d bytes beside, a text of %d: a box of %d bytes, code %d, not the reference's", len(beside), len(text), len(box), code)
	}
	if back, code := aead.Open(key, nonce, beside, box); code != api.OK || !bytes.Equal(back, text) {
		t.Errorf("%d bytes beside, a text of %d: opened it has %d bytes, code %d, and isn't as it was", len(beside), len(text), len(back), code)
	}
	return box
}

// refused: a box isn't opened, for this reason, and no bytes are told, not even in spare room.
func refused(t *testing.T, key, nonce, beside, box []byte, want api.Code) {
	t.Helper()
	got, code := aead.Open(key, nonce, beside, box)
	if code != want || cap(got) != 0 {
		t.Errorf("a key of %d bytes, a nonce of %d, %d beside, a box of %d: % x, code %d, not %d", len(key), len(nonce), len(beside), len(box), got[:cap(got)], code, want)
	}
}

// shown: the text whose hidden bytes these are, with the key and the nonce that most tests take.
func shown(t *testing.T, hidden []byte) []byte {
	t.Helper()
	return referenceHidden(t, row(keyLen), other(nonceLen), hidden) // what hides shows
}

// referenceHidden: a text hidden, block by block.
func referenceHidden(t *testing.T, key, nonce, text []byte) []byte {
	t.Helper()
	out := bytes.Clone(text)
	var block []byte
	for i := range out {
		if i%blockLen == 0 {
			block = blockAt(t, key, nonce, uint32(1+i/blockLen))
		}
		out[i] ^= block[i%blockLen]
	}
	return out
}

func referenceTag(t *testing.T, key, nonce, beside, hidden []byte) []byte {
	t.Helper()
	tag, code := poly.Tag(blockAt(t, key, nonce, 0)[:keyLen], message(beside, hidden))
	if code != api.OK {
		t.Fatalf("no tag: code %d", code)
	}
	return tag
}

// message: what is tagged.
func message(beside, hidden []byte) []byte {
	var out bytes.Buffer
	for _, part := range [][]byte{beside, hidden} {
		out.Write(part)
		for out.Len()%pieceLen != 0 {
			out.WriteByte(0)
		}
	}
	return binary.LittleEndian.AppendUint64(binary.LittleEndian.AppendUint64(out.Bytes(), uint64(len(beside))), uint64(len(hidden)))
}

func blockAt(t *testing.T, key, nonce []byte, counter uint32) []byte {
	t.Helper()
	block, code := chacha.Block(key, nonce, counter)
	if code != api.OK {
		t.Fatalf("no block: code %d", code)
	}
	return block
}

func copied(rows [4][]byte) [4][]byte {
	for i, b := range rows {
		rows[i] = bytes.Clone(b)
	}
	return rows
}

func alike(a, b [4][]byte) bool {
	return slices.EqualFunc(a[:], b[:], bytes.Equal)
}

// turned: the same bytes, but one bit.
func turned(b []byte, bit int) []byte {
	out := bytes.Clone(b)
	out[bit/8] ^= 1 << (bit % 8)
	return out
}

func unhex(t *testing.T, text string) []byte {
	t.Helper()
	b, ok := word.Unhex(text)
	if !ok {
		t.Fatalf("%q isn't hex", text)
	}
	return b
}

// row: n bytes of which hardly two neighbours are alike, the same each time, the fewer the beginning of the more.
func row(n int) []byte { return drawn(5, n) }

// other: as row, other bytes.
func other(n int) []byte { return drawn(6, n) }

func drawn(seed int64, n int) []byte {
	b := make([]byte, n)
	rand.New(rand.NewSource(seed)).Read(b)
	return b
}
