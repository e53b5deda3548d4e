package crypt_test

import (
	"bytes"
	"encoding/binary"
	"math/rand"
	"slices"
	"testing"

	"orlop/api"
	"orlop/crypt"
	"orlop/word"
)

// P12.1: the chapter's examples.
func TestBookExamples(t *testing.T) {
	c := crypt.Book()
	for i, x := range []struct {
		text   string
		number byte
	}{{"a", 0}, {"b", 1}, {"a", 0}} {
		want := "53554d21" + "0000000000000000000000000000000000000000" + "00000000000000" + word.Hex([]byte{x.number})
		if got := word.Hex(c.Sum([]byte(x.text))); got != want {
			t.Errorf("digest %d: %s, not %s", i, got, want)
		}
	}
	for i, want := range []string{"00000000000000000000000000000000", "00000000000000010000000000000001"} {
		if got, code := c.Seal(row(keyLen), row(nonceLen), nil, nil); code != api.OK || word.Hex(got) != want {
			t.Errorf("box %d: % x, code %d", i, got, code)
		}
	}
}

// P12.1, P12.2: texts of all lengths, in one order, the other, and again: each has the number of its first time, no two unlike ones the same.
func TestBookSums(t *testing.T) {
	h := newHeld(t)
	seen := map[string]string{}
	reversed := slices.Clone(lengths)
	slices.Reverse(reversed)
	for _, all := range [][]int{lengths, reversed, lengths} {
		for _, n := range all {
			for _, text := range [][]byte{row(n), other(n), make([]byte, n), bytes.Repeat([]byte{0xff}, n)} {
				got := string(h.sum(text))
				if before, known := seen[got]; known && before != string(text) {
					t.Fatalf("texts of %d and of %d bytes have one digest", len(before), n)
				}
				seen[got] = string(text)
			}
		}
	}
	if len(seen) != 4*(len(lengths)-1)+1 {
		t.Errorf("%d digests", len(seen))
	}
}

// P12.1: nil and no bytes are one text, whichever comes first.
func TestBookSumsOfNoBytes(t *testing.T) {
	for _, none := range [][][]byte{{nil, {}}, {{}, nil}, {row(9)[:0], nil, row(9)[9:], {}}} {
		h := newHeld(t)
		for _, text := range append(none, none...) {
			if got := h.sum(text); !bytes.Equal(got, digest(0)) {
				t.Errorf("% x", got)
			}
			h.sum([]byte{0})
		}
		h.has(2, 0)
	}
}

// P12.1, P12.2: texts that differ in one bit alone, or in their lengths, are unlike; short ones and long ones.
func TestBookSumsOfNearlyTheSame(t *testing.T) {
	h := newHeld(t)
	for _, n := range []int{1, 8, 64, 300} {
		h.sum(row(n))
		for bit := range 8 * n {
			h.sum(turned(row(n), bit))
		}
		h.sum(row(n))
	}
	for n := range 200 {
		h.sum(row(n))
		h.sum(make([]byte, n))
		h.sum(append(row(n), 0))
		h.sum(append([]byte{0}, row(n)...))
	}
	long := 1<<20 + 7
	for range 2 {
		for _, bit := range []int{0, 7, 8, 4 * long, 8*long - 1} {
			h.sum(turned(row(long), bit))
		}
		h.sum(row(long))
		h.sum(row(long - 1))
		h.sum(append(row(long), 0))
	}
}

// P12.1: texts of bytes that are no letters, or some of one that is longer.
func TestBookSumsGoByBytes(t *testing.T) {
	h := newHeld(t)
	for range 2 {
		for _, text := range []string{"é", "e\u0301", "\xc3", "\xa9", "\xff", "\xfe", "\xef\xbf\xbd", "\x00", "a", "A", "SUM!", string(digest(0)), string(numbered(0, 0))} {
			h.sum([]byte(text))
		}
	}
	h.has(13, 0)
}

// P12.1: a text's number has eight bytes, the greatest first, as has a box's: here the last three of them change.
func TestBookNumbersBytes(t *testing.T) {
	c, key, nonce := crypt.Book(), row(keyLen), other(nonceLen)
	const many = 1<<16 + 300
	for i := range many {
		if got := c.Sum(binary.LittleEndian.AppendUint32(nil, uint32(i))); !bytes.Equal(got, digest(i)) {
			t.Fatalf("digest %d: % x", i, got)
		}
		if got, code := c.Seal(key, nonce, nil, []byte("text")); code != api.OK || !bytes.Equal(got, numbered(i, 4)) {
			t.Fatalf("box %d: % x, code %d", i, got, code)
		}
	}
	for i := 0; i < many; i += 255 {
		if got := c.Sum(binary.LittleEndian.AppendUint32(nil, uint32(i))); !bytes.Equal(got, digest(i)) {
			t.Fatalf("digest %d, again: % x", i, got)
		}
		opens(t, c, key, nonce, nil, numbered(i, 4), []byte("text"))
	}
	refuses(t, c, key, nonce, nil, numbered(many, 4), api.ErrAuth)
}

// P12.1: each box has the next number, whether it was asked so before or not, again and again up to where it ends.
func TestBookBoxes(t *testing.T) {
	h := newHeld(t)
	count := 0
	for _, n := range append(lengths, 3, 4, 5, 6, 10, 11, 12, 13, 14, 18, 31, 32, 33) {
		for range 11 {
			if got := h.seal(row(keyLen), other(nonceLen), row(3), row(n)); !bytes.Equal(got, numbered(count, n)) {
				t.Fatalf("box %d of %d bytes: % x", count, n, got[:tagLen])
			}
			count++
		}
	}
	for _, x := range [][4][]byte{
		{other(keyLen), other(nonceLen), row(3), row(9)}, {row(keyLen), row(nonceLen), row(3), row(9)}, {row(keyLen), other(nonceLen), nil, row(9)},
		{make([]byte, keyLen), make([]byte, nonceLen), {}, {}}, {row(keyLen), other(nonceLen), row(1 << 20), nil}, {row(keyLen), other(nonceLen), row(3), row(9)},
	} {
		if got := h.seal(x[0], x[1], x[2], x[3]); !bytes.Equal(got, numbered(count, len(x[3]))) {
			t.Fatalf("box %d of %d bytes: % x", count, len(x[3]), got)
		}
		count++
	}
}

// P12.1: a box is opened with all that it was sealed with, and these very bytes; of several that were sealed alike each by its own bytes; and however many came behind it.
func TestBookOpens(t *testing.T) {
	h := newHeld(t)
	key, nonce, beside := row(keyLen), other(nonceLen), row(6)
	var boxes [][]byte
	for i := range 40 {
		boxes = append(boxes, h.seal(key, nonce, beside, row(i/4*7))) // four of each, sealed alike
	}
	for i := range 700 {
		h.seal(drawn(int64(i), keyLen), nonce, beside, other(i%90))
	}
	for range 2 {
		for i, box := range boxes {
			h.opens(key, nonce, beside, box, row(i/4*7))
			h.opens(key, nonce, beside, numbered(i, i/4*7), row(i/4*7)) // the same bytes, wherever they come from
		}
	}
}

// P12.1, P12.2: another key, nonce or row beside, in one bit or in length: ErrAuth, were there boxes of these or not; what it opens was sealed so.
func TestBookOpensWhatWasSealedSoAlone(t *testing.T) {
	h := newHeld(t)
	key, nonce, beside := row(keyLen), other(nonceLen), row(6)
	for _, n := range []int{0, 1, 8, 20} {
		box := h.seal(key, nonce, beside, other(n))
		for bit := range 8 * keyLen {
			h.refuses(turned(key, bit), nonce, beside, box, api.ErrAuth)
		}
		for bit := range 8 * nonceLen {
			h.refuses(key, turned(nonce, bit), beside, box, api.ErrAuth)
		}
		for bit := range 8 * len(beside) {
			h.refuses(key, nonce, turned(beside, bit), box, api.ErrAuth)
		}
		for m := range 20 {
			if m != len(beside) {
				h.refuses(key, nonce, row(m), box, api.ErrAuth)
			}
		}
		h.refuses(key, nonce, append(bytes.Clone(beside), 0), box, api.ErrAuth)
		h.refuses(key, nonce, append([]byte{0}, beside...), box, api.ErrAuth)
		h.refuses(key, nonce, nil, box, api.ErrAuth)
		h.seal(other(keyLen), nonce, beside, other(n)) // others of this length, behind it
		h.seal(key, row(nonceLen), beside, other(n))
		h.seal(key, nonce, nil, other(n))
		h.refuses(other(keyLen), nonce, beside, box, api.ErrAuth)
		h.refuses(key, row(nonceLen), beside, box, api.ErrAuth)
		h.refuses(key, nonce, nil, box, api.ErrAuth)
		h.opens(key, nonce, beside, box, other(n))
	}
}

// P12.1: bytes moved from one part to the next aren't as they were sealed.
func TestBookKnowsWhereAPartEnds(t *testing.T) {
	h := newHeld(t)
	zeros := make([]byte, 200)
	box := h.seal(zeros[:keyLen], zeros[:nonceLen], zeros[:10], zeros[:24]) // all of it is 0: box 0 is too
	for besides := range 60 {
		for boxes := tagLen; boxes < 80; boxes++ {
			if besides != 10 || boxes != len(box) {
				h.refuses(zeros[:keyLen], zeros[:nonceLen], zeros[:besides], zeros[:boxes], api.ErrAuth)
			}
		}
	}
	h.opens(zeros[:keyLen], zeros[:nonceLen], zeros[:10], zeros[:40], zeros[:24])
	a, b := row(keyLen), bytes.Repeat([]byte{1}, 70)
	h.seal(a, b[:nonceLen], b[:20], row(4))
	h.refuses(a, b[:nonceLen], b[:21], numbered(1, 4), api.ErrAuth)
	h.opens(a, b[:nonceLen], b[20:40], numbered(1, 4), row(4))
}

// P12.1: a box one of whose bytes is another one, with bytes more or fewer, even if they are its number's; of numbers that were never told.
func TestBookRefusesOtherBytes(t *testing.T) {
	h := newHeld(t)
	key, nonce := row(keyLen), other(nonceLen)
	for i := range 12 {
		h.seal(key, nonce, nil, row(5+i%4))
	}
	for i := range 12 {
		box := numbered(i, 5+i%4)
		for bit := range 8 * len(box) {
			h.refuses(key, nonce, nil, turned(box, bit), api.ErrAuth)
		}
		for _, n := range []int{0, 1, 4, 9, 13, 21, 1000} {
			h.refuses(key, nonce, nil, numbered(i, n), api.ErrAuth)
		}
		for at := range len(box) {
			h.refuses(key, nonce, nil, slices.Insert(bytes.Clone(box), at, 0), api.ErrAuth)
			h.refuses(key, nonce, nil, slices.Delete(bytes.Clone(box), at, at+1), api.ErrAuth)
		}
		h.opens(key, nonce, nil, box, row(5+i%4))
	}
	for _, number := range []int{12, 13, 255, 256, 1 << 32, 1<<63 - 1} {
		for n := range 30 {
			h.refuses(key, nonce, nil, numbered(number, n), api.ErrAuth)
		}
	}
	h.refuses(key, nonce, nil, bytes.Repeat([]byte{0xff}, 21), api.ErrAuth)
	h.has(0, 12)
}

// P12.1: what is refused counts nothing: the next box has the number that this one would have had.
func TestBookCountsNoRefusedBox(t *testing.T) {
	h := newHeld(t)
	for i := range 3 {
		for _, n := range wrongKeys {
			h.seal(row(n), other(nonceLen), nil, row(i))
			h.open(row(n), other(nonceLen), nil, numbered(0, 0))
		}
		for _, n := range wrongNonces {
			h.seal(row(keyLen), other(n), nil, row(i))
			h.open(row(keyLen), other(n), nil, numbered(0, 0))
		}
		h.seal(nil, nil, nil, nil)
		h.refuses(row(keyLen), other(nonceLen), nil, numbered(i, i), api.ErrAuth)
		if got := h.seal(row(keyLen), other(nonceLen), nil, row(i)); !bytes.Equal(got, numbered(i, i)) {
			t.Errorf("box %d: % x", i, got)
		}
		h.opens(row(keyLen), other(nonceLen), nil, numbered(i, i), row(i))
		for range 5 {
			h.refuses(row(keyLen), other(nonceLen), nil, numbered(i+1, i+1), api.ErrAuth)
			h.refuses(row(keyLen), other(nonceLen), nil, row(15), api.ErrFormat)
		}
	}
	h.has(0, 3)
}

// P12.1: digests and boxes are counted each for themselves; nor does what is sealed, told or opened count as digested.
func TestBookCountsDigestsAndBoxesApart(t *testing.T) {
	h := newHeld(t)
	for i := range 5 {
		text := row(10 + i)
		box := h.seal(row(keyLen), other(nonceLen), other(i), text)
		h.opens(row(keyLen), other(nonceLen), other(i), box, text)
	}
	for i, text := range [][]byte{row(keyLen), row(14), numbered(3, 13), digest(0), numbered(0, 0)} {
		if got := h.sum(text); !bytes.Equal(got, digest(i)) {
			t.Errorf("digest %d: % x", i, got)
		}
	}
	h.has(5, 5)
	h.has(6, 6)
	for i := range 20 {
		h.sum(other(100 + i))
	}
	h.has(27, 7)
	for range 30 {
		h.seal(other(keyLen), row(nonceLen), nil, nil)
	}
	h.has(28, 38)
}

// P12.1: two books know nothing of each other.
func TestTwoBooks(t *testing.T) {
	a, b := newHeld(t), newHeld(t)
	key, nonce := row(keyLen), other(nonceLen)
	for i := range 30 {
		a.sum(row(i))
		a.seal(key, nonce, nil, row(i))
		b.refuses(key, nonce, nil, numbered(i, i), api.ErrAuth)
		if i%3 == 0 {
			b.sum(other(30 - i))
			b.seal(key, nonce, row(1), other(i))
			a.refuses(key, nonce, row(1), numbered(i/3, i), api.ErrAuth)
		}
	}
	a.has(30, 30)
	b.has(10, 10)
	newHeld(t).has(0, 0)
}

// P12.2: a box tells nothing of its text but its length: two books that are handed whatever keys, nonces, rows and texts of the same lengths tell the same boxes.
func TestABoxTellsNothingButItsLength(t *testing.T) {
	a, b := crypt.Book(), crypt.Book()
	for i, n := range append(lengths, lengths...) {
		x, _ := boxOf(t, a, row(keyLen), row(nonceLen), nil, row(n))
		y, _ := boxOf(t, b, drawn(int64(i), keyLen), drawn(int64(i+1), nonceLen), drawn(int64(i+2), i), drawn(int64(i+3), n))
		if !bytes.Equal(x, y) {
			t.Errorf("box %d, of %d bytes each: unlike ones", i, n)
		}
	}
}

// What a book was handed may be written over behind the call, as may what it told: it knows what was there.
func TestABookKeepsNoMemory(t *testing.T) {
	c := crypt.Book()
	key, nonce, beside, text := row(keyLen), other(nonceLen), row(7), other(30)
	sum := c.Sum(text)
	box, _ := c.Seal(key, nonce, beside, text)
	first, _ := c.Open(key, nonce, beside, box)
	for _, b := range [][]byte{key, nonce, beside, text, sum[:cap(sum)], box[:cap(box)], first[:cap(first)]} {
		turnAll(b)
	}
	opens(t, c, row(keyLen), other(nonceLen), row(7), numbered(0, 30), other(30))
	refuses(t, c, key, nonce, beside, box, api.ErrAuth)
	refuses(t, c, row(keyLen), other(nonceLen), row(7), box, api.ErrAuth)
	for i, b := range [][]byte{other(30), text, other(30)} {
		if got := sumOf(t, c, b); !bytes.Equal(got, digest(i%2)) {
			t.Errorf("digest %d: % x", i, got)
		}
	}
	one, _ := c.Open(row(keyLen), other(nonceLen), row(7), numbered(0, 30))
	two, _ := c.Open(row(keyLen), other(nonceLen), row(7), numbered(0, 30))
	turnAll(one[:cap(one)])
	if !bytes.Equal(two, other(30)) {
		t.Error("two texts that were told share memory")
	}
}

// The same memory may be handed in in several places.
func TestABookTakesRowsThatShareMemory(t *testing.T) {
	c := crypt.Book()
	b := row(100)
	for i, at := range [][2]int{{0, 100}, {0, 0}, {20, 60}, {99, 100}} {
		box, code := c.Seal(b[:keyLen], b[10:10+nonceLen], b[at[0]:at[1]], b[at[0]:at[1]])
		if code != api.OK || !bytes.Equal(box, numbered(i, at[1]-at[0])) || !bytes.Equal(b, row(100)) {
			t.Fatalf("box %d: % x, code %d", i, box, code)
		}
		opens(t, c, b[:keyLen], b[10:10+nonceLen], b[at[0]:at[1]], box, b[at[0]:at[1]])
	}
	box, _ := c.Seal(b[:keyLen], b[:nonceLen], numbered(4, 9), row(9)) // a box that is said beside itself
	opens(t, c, b[:keyLen], b[:nonceLen], box, box, row(9))
}

// P12.1, P12.2: long scripts of all calls, on three books in turn, held to books reckoned another way. Rows are drawn from few, so that much is asked again.
func TestBookScripts(t *testing.T) {
	for seed := range int64(60) {
		r := rand.New(rand.NewSource(seed))
		var books [3]*held
		for i := range books {
			books[i] = newHeld(t)
		}
		codes := map[api.Code]int{}
		for range 700 {
			codes[scriptStep(r, books[r.Intn(len(books))])]++
		}
		for _, code := range []api.Code{api.OK, api.ErrArg, api.ErrFormat, api.ErrAuth} {
			if codes[code] < 10 {
				t.Errorf("script %d: code %d came %d times", seed, code, codes[code])
			}
		}
	}
}

// scriptStep: a call that is drawn; of Open its code is told.
func scriptStep(r *rand.Rand, h *held) api.Code {
	key, nonce, beside := few(r, keyLen), few(r, nonceLen), few(r, r.Intn(3))
	switch r.Intn(6) {
	case 0:
		h.sum(few(r, r.Intn(40)))
		return -1
	case 1, 2:
		h.seal(key, nonce, beside, few(r, r.Intn(40)))
		return -1
	}
	if len(h.want.boxes) == 0 {
		return h.open(key, nonce, beside, few(r, r.Intn(40)))
	}
	x := h.want.boxes[r.Intn(len(h.want.boxes))]
	rows := [][]byte{[]byte(x.key), []byte(x.nonce), []byte(x.beside), []byte(x.box)}
	switch r.Intn(6) {
	case 0:
		rows[r.Intn(3)] = [][]byte{key, nonce, beside}[r.Intn(3)]
	case 1:
		rows[3] = numbered(r.Intn(len(h.want.boxes)+1), r.Intn(40))
	case 2:
		rows[3] = rows[3][:r.Intn(len(rows[3]))]
	case 3:
		if i := r.Intn(4); len(rows[i]) > 0 {
			rows[i] = turned(rows[i], r.Intn(8*len(rows[i])))
		}
	}
	return h.open(rows[0], rows[1], rows[2], rows[3])
}

// few: n bytes, of which there are two rows; now and then one byte more or fewer.
func few(r *rand.Rand, n int) []byte {
	if r.Intn(12) == 0 {
		n = max(n+2*r.Intn(2)-1, 0)
	}
	if r.Intn(3) == 0 {
		return other(n)
	}
	return row(n)
}

// The same calls in the same order tell the same, whatever another book was asked in between.
func TestTheSameCallsTellTheSame(t *testing.T) {
	for seed := range int64(5) {
		a, b := newHeld(t), newHeld(t)
		one, two := rand.New(rand.NewSource(seed)), rand.New(rand.NewSource(seed))
		for range 300 {
			if x, y := scriptStep(one, a), scriptStep(two, b); x != y {
				t.Fatalf("script %d: codes %d and %d", seed, x, y)
			}
		}
	}
}
