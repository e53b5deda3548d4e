package word_test

import (
	"bytes"
	"fmt"
	"math/rand"
	"strings"
	"testing"

	"orlop/word"
)

// Each byte of these numbers is another one, or they lie at the edge of what 4 or 8 bytes hold, so that a byte at the wrong place shows.
var numbers32 = []struct {
	v     uint32
	bytes []byte // the least first
}{
	{0, []byte{0, 0, 0, 0}},
	{1, []byte{1, 0, 0, 0}},
	{0xff, []byte{0xff, 0, 0, 0}},
	{0x100, []byte{0, 1, 0, 0}},
	{0x01020304, []byte{4, 3, 2, 1}},
	{0x80000000, []byte{0, 0, 0, 0x80}},
	{0xfffefdfc, []byte{0xfc, 0xfd, 0xfe, 0xff}},
	{0xffffffff, []byte{0xff, 0xff, 0xff, 0xff}},
}

var numbers64 = []struct {
	v     uint64
	bytes []byte // the least first
}{
	{0, []byte{0, 0, 0, 0, 0, 0, 0, 0}},
	{1, []byte{1, 0, 0, 0, 0, 0, 0, 0}},
	{0xffffffff, []byte{0xff, 0xff, 0xff, 0xff, 0, 0, 0, 0}},
	{0x100000000, []byte{0, 0, 0, 0, 1, 0, 0, 0}},
	{0x0102030405060708, []byte{8, 7, 6, 5, 4, 3, 2, 1}},
	{0x8000000000000000, []byte{0, 0, 0, 0, 0, 0, 0, 0x80}},
	{0xfffefdfcfbfaf9f8, []byte{0xf8, 0xf9, 0xfa, 0xfb, 0xfc, 0xfd, 0xfe, 0xff}},
	{0xffffffffffffffff, []byte{0xff, 0xff, 0xff, 0xff, 0xff, 0xff, 0xff, 0xff}},
}

func turned(b []byte) []byte {
	out := make([]byte, 0, len(b))
	for i := len(b) - 1; i >= 0; i-- {
		out = append(out, b[i])
	}
	return out
}

// P1.1
func TestNumbersOf32BitsAreFourBytes(t *testing.T) {
	for _, n := range numbers32 {
		if b := word.Put32(n.v); !bytes.Equal(b, n.bytes) {
			t.Errorf("Put32(%#x): % x, not % x", n.v, b, n.bytes)
		}
		if b := word.Big32(n.v); !bytes.Equal(b, turned(n.bytes)) {
			t.Errorf("Big32(%#x): % x, not % x", n.v, b, turned(n.bytes))
		}
		if v := word.Get32(n.bytes); v != n.v {
			t.Errorf("Get32(% x): %#x, not %#x", n.bytes, v, n.v)
		}
		if v := word.GetBig32(turned(n.bytes)); v != n.v {
			t.Errorf("GetBig32(% x): %#x, not %#x", turned(n.bytes), v, n.v)
		}
	}
}

// P1.1
func TestNumbersOf64BitsAreEightBytes(t *testing.T) {
	for _, n := range numbers64 {
		if b := word.Put64(n.v); !bytes.Equal(b, n.bytes) {
			t.Errorf("Put64(%#x): % x, not % x", n.v, b, n.bytes)
		}
		if b := word.Big64(n.v); !bytes.Equal(b, turned(n.bytes)) {
			t.Errorf("Big64(%#x): % x, not % x", n.v, b, turned(n.bytes))
		}
		if v := word.Get64(n.bytes); v != n.v {
			t.Errorf("Get64(% x): %#x, not %#x", n.bytes, v, n.v)
		}
		if v := word.GetBig64(turned(n.bytes)); v != n.v {
			t.Errorf("GetBig64(% x): %#x, not %#x", turned(n.bytes), v, n.v)
		}
	}
}

// P1.1: bytes that there aren't count as 0; those behind the fourth, or the eighth, don't count.
func TestRowsOfOtherLengthsAreRead(t *testing.T) {
	row := []byte{0xf1, 0xf2, 0xf3, 0xf4, 0xf5, 0xf6, 0xf7, 0xf8, 0xf9, 0xfa}
	least32 := []uint32{0, 0xf1, 0xf2f1, 0xf3f2f1, 0xf4f3f2f1}
	big32 := []uint32{0, 0xf1000000, 0xf1f20000, 0xf1f2f300, 0xf1f2f3f4}
	least64 := []uint64{0, 0xf1, 0xf2f1, 0xf3f2f1, 0xf4f3f2f1, 0xf5f4f3f2f1, 0xf6f5f4f3f2f1, 0xf7f6f5f4f3f2f1, 0xf8f7f6f5f4f3f2f1}
	big64 := []uint64{0, 0xf1 << 56, 0xf1f2 << 48, 0xf1f2f3 << 40, 0xf1f2f3f4 << 32, 0xf1f2f3f4f5 << 24, 0xf1f2f3f4f5f6 << 16, 0xf1f2f3f4f5f6f7 << 8, 0xf1f2f3f4f5f6f7f8}
	for n := 0; n <= len(row); n++ {
		b := row[:n] // the bytes in its spare room are no bytes of it
		if v := word.Get32(b); v != least32[min(n, 4)] {
			t.Errorf("Get32(% x): %#x", b, v)
		}
		if v := word.GetBig32(b); v != big32[min(n, 4)] {
			t.Errorf("GetBig32(% x): %#x", b, v)
		}
		if v := word.Get64(b); v != least64[min(n, 8)] {
			t.Errorf("Get64(% x): %#x", b, v)
		}
		if v := word.GetBig64(b); v != big64[min(n, 8)] {
			t.Errorf("GetBig64(% x): %#x", b, v)
		}
	}
	if word.Get32(nil) != 0 || word.Get64(nil) != 0 || word.GetBig32(nil) != 0 || word.GetBig64(nil) != 0 {
		t.Error("no bytes: not 0")
	}
	if v := word.GetBig32([]byte{1, 2}); v != 16908288 {
		t.Errorf("GetBig32(01 02): %d", v)
	}
}

// P1.2
func TestEqualOfLikeRows(t *testing.T) {
	for n := range 300 {
		a := row(n)
		if !word.Equal(a, bytes.Clone(a)) || !word.Equal(a, a) {
			t.Errorf("%d like bytes are not equal", n)
		}
	}
	if !word.Equal(nil, []byte{}) || !word.Equal([]byte{}, nil) || !word.Equal(nil, nil) {
		t.Error("no bytes and no bytes are not equal")
	}
}

// P1.2: every bit of every byte counts.
func TestEqualOfRowsUnlikeInOneBit(t *testing.T) {
	for _, n := range []int{1, 2, 3, 4, 7, 8, 9, 16, 31, 32, 33, 64, 257} {
		a := row(n)
		for bit := range 8 * n {
			b := bytes.Clone(a)
			b[bit/8] ^= 1 << (bit % 8)
			if word.Equal(a, b) || word.Equal(b, a) {
				t.Errorf("%d bytes, bit %d: equal", n, bit)
			}
		}
	}
}

// P1.2: one unlike byte doesn't make up for another.
func TestEqualOfRowsUnlikeInManyBytes(t *testing.T) {
	for _, pair := range [][2][]byte{
		{{1, 2}, {2, 1}},
		{{1, 1}, {2, 2}},
		{{0, 0}, {0x80, 0x80}},
		{{0x0f, 0xf0}, {0xf0, 0x0f}},
		{make([]byte, 256), bytes.Repeat([]byte{1}, 256)},
		{make([]byte, 255), bytes.Repeat([]byte{0xff}, 255)},
	} {
		if word.Equal(pair[0], pair[1]) || word.Equal(pair[1], pair[0]) {
			t.Errorf("% x and % x: equal", pair[0], pair[1])
		}
	}
}

// P1.2: rows of unlike lengths are unlike, though the one begins the other, though what is more is 0, though it lies in the spare room.
func TestEqualOfRowsOfUnlikeLengths(t *testing.T) {
	for _, long := range [][]byte{row(20), make([]byte, 20)} {
		for n := range len(long) {
			if word.Equal(long[:n], long) || word.Equal(long, long[:n]) {
				t.Errorf("%d bytes and %d: equal", n, len(long))
			}
		}
	}
	if word.Equal(nil, []byte{0}) || word.Equal([]byte{0}, nil) {
		t.Error("no byte and a 0: equal")
	}
}

// P1.2: all of b's bytes, and none beside them.
func TestWipe(t *testing.T) {
	for n := range 70 {
		whole := bytes.Repeat([]byte{0xa5}, n+8)
		word.Wipe(whole[3 : 3+n])
		want := bytes.Repeat([]byte{0xa5}, n+8)
		copy(want[3:], make([]byte, n))
		if !bytes.Equal(whole, want) {
			t.Errorf("%d bytes wiped: % x", n, whole)
		}
	}
	word.Wipe(nil)
}

// P1.3
func TestHex(t *testing.T) {
	var all []byte
	var want strings.Builder
	for i := range 256 {
		all = append(all, byte(i))
		fmt.Fprintf(&want, "%02x", i)
		if s := word.Hex([]byte{byte(i)}); s != fmt.Sprintf("%02x", i) {
			t.Errorf("Hex(%#x): %q", i, s)
		}
	}
	if s := word.Hex(all); s != want.String() {
		t.Errorf("Hex of all bytes: %q", s)
	}
	if s := word.Hex([]byte{0x0a, 0xff}); s != "0aff" {
		t.Errorf("Hex(0a ff): %q", s)
	}
	if word.Hex(nil) != "" || word.Hex([]byte{}) != "" {
		t.Error("Hex of no bytes isn't empty")
	}
}

// P1.3: of the texts of two bytes just those 256 that Hex tells are read.
func TestUnhexOfAllTextsOfTwoBytes(t *testing.T) {
	told := map[string]int{}
	for i := range 256 {
		told[fmt.Sprintf("%02x", i)] = i
	}
	for i := range 65536 {
		text := string([]byte{byte(i >> 8), byte(i)})
		want, may := told[text]
		b, ok := word.Unhex(text)
		if ok != may || ok && !bytes.Equal(b, []byte{byte(want)}) || !ok && len(b) != 0 {
			t.Errorf("Unhex(%q): % x, %v", text, b, ok)
		}
	}
}

// P1.3: else none and false, wherever it is wrong.
func TestUnhexOfWrongTexts(t *testing.T) {
	const good = "00112233445566778899aabbccddeeff"
	wrong := []string{"0", "0aff0", "0AFF", "0aFf", "Aa", "xx", "0x", "0x0a", "+1", "-1", " 1", "1 ", "0a ff", "0a\n", "\x00\x00", "0_", "é", "éé", "٣٣", "\uff11\uff11", "\xff\xff", "g0", "0g", "/0", ":0", "`0", "@0"}
	for i := range len(good) {
		wrong = append(wrong, good[:i]+"g"+good[i+1:], good[:i]+good[i+1:])
	}
	for _, text := range append(wrong, strings.ToUpper(good)) {
		if b, ok := word.Unhex(text); ok || len(b) != 0 {
			t.Errorf("Unhex(%q): % x, %v", text, b, ok)
		}
	}
}

// P1.3
func TestUnhexOfRightTexts(t *testing.T) {
	for text, want := range map[string]string{
		"":                 "",
		"00":               "\x00",
		"0aff":             "\x0a\xff",
		"0123456789abcdef": "\x01\x23\x45\x67\x89\xab\xcd\xef",
	} {
		if b, ok := word.Unhex(text); !ok || string(b) != want {
			t.Errorf("Unhex(%q): % x, %v", text, b, ok)
		}
	}
}

// P1.4
func TestWhatWasPutIsGot(t *testing.T) {
	draw := rand.New(rand.NewSource(1))
	check := func(v uint64) {
		if word.Get64(word.Put64(v)) != v || word.GetBig64(word.Big64(v)) != v {
			t.Errorf("%#x of 64 bits: another one is got", v)
		}
		if w := uint32(v); word.Get32(word.Put32(w)) != w || word.GetBig32(word.Big32(w)) != w {
			t.Errorf("%#x of 32 bits: another one is got", w)
		}
	}
	for bit := range 64 {
		check(1 << bit)
		check(1<<bit - 1)
		check(^(1 << bit))
	}
	for range 10000 {
		check(draw.Uint64())
	}
}

// P1.4
func TestWhatHexTellsUnhexReads(t *testing.T) {
	for n := range 600 {
		b := row(n)
		text := word.Hex(b)
		if got, ok := word.Unhex(text); !ok || !bytes.Equal(got, b) {
			t.Errorf("%d bytes: Unhex reads % x, %v", n, got, ok)
		}
		if got, _ := word.Unhex(text); word.Hex(got) != text {
			t.Errorf("%q: there and back it is another text", text)
		}
	}
}

// What is handed in isn't changed (but by Wipe), and is seen no more behind the call; what is answered is new memory.
func TestArgumentsAndAnswersShareNothing(t *testing.T) {
	whole := row(40)
	b := whole[:20]
	text := word.Hex(b)
	word.Get32(b)
	word.Get64(b)
	word.GetBig32(b)
	word.GetBig64(b)
	word.Equal(b, whole[20:])
	if !bytes.Equal(whole, row(40)) {
		t.Error("an argument, or its spare room, was changed")
	}
	clear(whole)
	if got, ok := word.Unhex(text); !ok || !bytes.Equal(got, row(40)[:20]) {
		t.Error("a text changed with the bytes that it was made of")
	}
	for _, ask := range []func() []byte{
		func() []byte { return word.Put32(0x01020304) },
		func() []byte { return word.Put64(0x0102030405060708) },
		func() []byte { return word.Big32(0x01020304) },
		func() []byte { return word.Big64(0x0102030405060708) },
		func() []byte { b, _ := word.Unhex("01020304"); return b },
	} {
		first := ask()
		kept := bytes.Clone(first)
		clear(first[:cap(first)])
		if second := ask(); !bytes.Equal(second, kept) {
			t.Errorf("two answers share memory: % x", second)
		}
	}
}

// row: n bytes of which hardly two neighbours are alike, the same each time.
func row(n int) []byte {
	b := make([]byte, n)
	rand.New(rand.NewSource(7)).Read(b)
	return b
}
