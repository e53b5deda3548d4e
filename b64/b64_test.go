package b64_test

import (
	"bytes"
	"encoding/base64"
	"math/rand"
	"strings"
	"testing"

	"orlop/b64"
)

// known: rows and their letters, of chapter 14, of RFC 4648, 9 and 10, and of all the letters there are.
var known = []struct{ row, text string }{
	{"", ""},
	{"M", "TQ=="},
	{"Ma", "TWE="},
	{"Man", "TWFu"},
	{"f", "Zg=="},
	{"fo", "Zm8="},
	{"foo", "Zm9v"},
	{"foob", "Zm9vYg=="},
	{"fooba", "Zm9vYmE="},
	{"foobar", "Zm9vYmFy"},
	{"\x14\xfb\x9c\x03\xd9\x7e", "FPucA9l+"},
	{"\x14\xfb\x9c\x03\xd9", "FPucA9k="},
	{"\x14\xfb\x9c\x03", "FPucAw=="},
	{"\x00", "AA=="},
	{"\x00\x00", "AAA="},
	{"\x00\x00\x00", "AAAA"},
	{"\xff", "/w=="},
	{"\xff\xff", "//8="},
	{"\xff\xff\xff", "////"},
	{"\xfb\xef\xbe", "++++"},
	{"\x00\x10\x83\x10\x51\x87\x20\x92\x8b\x30\xd3\x8f\x41\x14\x93\x51\x55\x97\x61\x96\x9b\x71\xd7\x9f\x82\x18\xa3\x92\x59\xa7\xa2\x9a\xab\xb2\xdb\xaf\xc3\x1c\xb3\xd3\x5d\xb7\xe3\x9e\xbb\xf3\xdf\xbf", signs[:64]},
}

// forms: right texts of each form of an end, with fours ahead and without; some have the letters + and /.
var forms = []string{"TWFu", "TWE=", "TQ==", "Zm9vYmFy", "Zm9vYmE=", "Zm9vYg==", "AAAA", "AAA=", "AA==", "////", "//8=", "/w==", "++++", "+/+8", "FPucA9l+FPucA9l+", "FPucA9l+FPucA9k=", "FPucA9l+FPucAw=="}

// P14.1
func TestKnownTexts(t *testing.T) {
	for _, k := range known {
		writes(t, []byte(k.row), k.text)
		reads(t, k.text, []byte(k.row))
	}
	if b64.Text(nil) != "" || b64.Text([]byte{}) != "" {
		t.Error("Text of no bytes isn't empty")
	}
	if b, ok := b64.Bytes(""); !ok || len(b) != 0 {
		t.Errorf("Bytes of the empty text: % x, %v", b, ok)
	}
}

// P14.1: each value of a byte, in each place of rows of one to some groups, beside bytes of one kind and another.
func TestTextOfEachByteInEachPlace(t *testing.T) {
	for n := 1; n <= 9; n++ {
		for _, beside := range [][]byte{make([]byte, n), bytes.Repeat([]byte{0xff}, n), row(n)} {
			for place := range n {
				for v := range 256 {
					b := bytes.Clone(beside)
					b[place] = byte(v)
					want := textOf(b)
					writes(t, b, want)
					reads(t, want, b)
				}
			}
		}
	}
}

// P14.1: a long row has each of the letters in each of the four places; all groups of which that letter alone isn't A, in one row and each alone.
func TestEachLetterInEachPlace(t *testing.T) {
	var long []byte
	seen := map[[2]byte]bool{}
	for place := range 4 {
		for n := range 64 {
			bits := n << (18 - 6*place)
			group := []byte{byte(bits >> 16), byte(bits >> 8), byte(bits)}
			want := bytes.Repeat([]byte("A"), 4)
			want[place] = sign(n)
			writes(t, group, string(want))
			reads(t, string(want), group)
			long = append(long, group...)
		}
	}
	for _, b := range [][]byte{long, row(21000)} {
		text := textOf(b)
		writes(t, b, text)
		reads(t, text, b)
		for i := range text {
			seen[[2]byte{byte(i % 4), text[i]}] = true
		}
		if len(seen) != 4*64 {
			t.Errorf("of the 64 letters in 4 places %d are seen", len(seen))
		}
		clear(seen)
	}
}

// P14.1, P14.2: rows of all lengths up to some hundreds.
func TestRowsOfManyLengths(t *testing.T) {
	for n := range 700 {
		for _, b := range [][]byte{row(n), make([]byte, n), bytes.Repeat([]byte{0xff}, n)} {
			want := textOf(b)
			writes(t, b, want)
			reads(t, want, b)
		}
	}
}

// P14.1, P14.2: long rows, around the multiples of what a byte, two, and three tell; held to the library's letters, as those reckoned here take long. One wrong letter is found, wherever it is.
func TestLongRows(t *testing.T) {
	for _, around := range []int{1 << 12, 1 << 15, 1 << 16, 3 << 16, 1 << 20} {
		for n := around - 2; n <= around+2; n++ {
			text := longRow(t, n)
			for _, at := range []int{0, len(text) / 2, len(text) - 5} {
				refuses(t, text[:at]+"-"+text[at+1:])
				refuses(t, text[:at]+"="+text[at+1:])
				refuses(t, text[:at]+text[at+1:])
			}
		}
	}
	longRow(t, 1<<24+1)
}

// longRow: a row of n bytes there and back; its letters.
func longRow(t *testing.T, n int) string {
	t.Helper()
	b := row(n)
	text := base64.StdEncoding.EncodeToString(b)
	writes(t, b, text)
	reads(t, text, b)
	return text
}

// P14.2: what Text tells Bytes reads; four letters for each three bytes, and for those that are left; a row's groups of three are written alike, whatever comes behind them.
func TestWhatTextTellsBytesReads(t *testing.T) {
	whole := row(400)
	all := b64.Text(whole[:399])
	for n := range whole {
		text := b64.Text(whole[:n])
		if got, ok := b64.Bytes(text); !ok || !bytes.Equal(got, whole[:n]) {
			t.Errorf("%d bytes: % x, %v are read", n, got, ok)
		}
		if want := 4 * ((n + 2) / 3); len(text) != want {
			t.Errorf("%d bytes: %d letters, not %d", n, len(text), want)
		}
		if fillers := strings.Count(text, "="); fillers != []int{0, 2, 1}[n%3] {
			t.Errorf("%d bytes: %d signs fill up", n, fillers)
		}
		if whole := n / 3 * 4; text[:whole] != all[:whole] {
			t.Errorf("%d bytes: other letters than those of the row that goes on", n)
		}
	}
}

// P14.1: in each place of a right text, of the last four and of those ahead, each of the 256 bytes: only letters are right, and = where it may stand.
func TestEachByteInEachPlaceOfAText(t *testing.T) {
	for _, form := range forms {
		for _, text := range []string{form, "TWFu" + form, form + "TWFu", "++//" + form + "TQ=="} {
			for place := range len(text) {
				for v := range 256 {
					judged(t, text[:place]+string([]byte{byte(v)})+text[place+1:])
				}
			}
		}
	}
	rights := func(ahead, behind string) int {
		n := 0
		for v := range 256 {
			if judged(t, ahead+string([]byte{byte(v)})+behind) {
				n++
			}
		}
		return n
	}
	for _, c := range []struct {
		ahead, behind string
		rights        int
	}{
		{"", "WFu", 64}, {"T", "Fu", 64}, {"TW", "u", 64}, {"TWF", "", 64}, {"TWE", "", 65}, {"TQ=", "", 1}, {"TR=", "", 0},
		{"", "WE=", 64}, {"T", "E=", 64}, {"TW", "=", 16}, {"TQ", "=", 17}, {"", "Q==", 64}, {"T", "==", 4},
		{"", "WFuTWFu", 64}, {"TWF", "TWFu", 64}, {"TWE", "TWFu", 64}, {"TW", "uTWE=", 64}, {"TQ=", "TQ==", 0}, {"TW", "=TWFu", 0},
	} {
		if n := rights(c.ahead, c.behind); n != c.rights {
			t.Errorf("%q, a byte, %q: %d of the 256 are right, not %d", c.ahead, c.behind, n, c.rights)
		}
	}
}

// P14.1: of the texts of two letters and == 256 are right, of those of three and = 65536: the bits that are left over are 0.
func TestBitsThatAreLeft(t *testing.T) {
	ones, twos := 0, 0
	for first := range 64 {
		for second := range 64 {
			two := string([]byte{sign(first), sign(second)})
			b, ok := b64.Bytes(two + "==")
			if ok != (second%16 == 0) || ok && (len(b) != 1 || int(b[0]) != first<<2|second>>4) || !ok && len(b) != 0 {
				t.Errorf("Bytes(%q): % x, %v", two+"==", b, ok)
			}
			if ok {
				ones++
			}
			for third := range 64 {
				text := two + string([]byte{sign(third)}) + "="
				b, ok := b64.Bytes(text)
				if ok != (third%4 == 0) || ok && (len(b) != 2 || int(b[0])<<8|int(b[1]) != first<<10|second<<4|third>>2) || !ok && len(b) != 0 {
					t.Errorf("Bytes(%q): % x, %v", text, b, ok)
				}
				if ok {
					twos++
				}
			}
		}
	}
	if ones != 1<<8 || twos != 1<<16 {
		t.Errorf("%d and %d texts are right", ones, twos)
	}
	for _, text := range []string{"TWF=", "TR==", "TX==", "TWG=", "TWH=", "//9=", "/x==", "AAB=", "AB=="} {
		refuses(t, text)
		refuses(t, "TWFu"+text)
	}
}

// P14.1: all texts of one byte and of two are wrong; so is each that has no multiple of four signs.
func TestTextsOfWrongLengths(t *testing.T) {
	for v := range 1 << 16 {
		refuses(t, string([]byte{byte(v >> 8), byte(v)}))
		if v < 256 {
			refuses(t, string([]byte{byte(v)}))
		}
	}
	for n := range 700 {
		for _, text := range []string{strings.Repeat("A", n), strings.Repeat("TWFu", n)[:n], strings.Repeat("A", n) + "=", strings.Repeat("A", n) + "=="} {
			if may := judged(t, text); may && len(text)%4 != 0 {
				t.Errorf("%q may be", text)
			}
		}
	}
}

// P14.1: = too early, too often, too few, alone, with more behind it.
func TestFillers(t *testing.T) {
	for _, text := range []string{
		"=", "==", "===", "====", "=====", "========",
		"TQ", "TQ=", "TQ===", "TQ====", "TQ======", "TWE", "TWE==", "TWE===", "TWE=====", "TWFu=", "TWFu==", "TWFu===", "TWFu====",
		"T===", "T==", "T=", "=TQ==", "=TWE", "=TWF", "==TQ", "===T", "=TWFu", "====TWFu", "TWFu====TWFu",
		"T=WE", "T=Q=", "T==Q", "TQ=A", "TQ=Q", "TW=E", "TW=u", "TWFuTQ=A", "A=A=", "=A==", "=AA=", "A==A", "=A=A",
		"TQ==TQ==", "TWE=TWE=", "TQ==TWFu", "TWE=TWFu", "TQ==T", "TQ==TQ", "TWE=T", "TQ==A", "TWE=A", "TQ==AAAA", "TWE=AAAA", "TQ=TQ=", "TWE==TQ==",
	} {
		refuses(t, text)
		refuses(t, "FPucA9l+"+text)
	}
	for _, four := range []string{"T===", "====", "=WFu", "T=Fu", "TW=u", "T==u", "TQ=A"} {
		refuses(t, four+"TWFu")
		refuses(t, "TWFu"+four+"TWFu")
	}
}

// P14.1: all texts of up to eight signs, of few signs each: two letters, of which one leaves bits over, = and a line end.
func TestAllTextsOfFewSigns(t *testing.T) {
	texts, next, rights := []string{""}, []string(nil), 0
	for range 8 {
		next = nil
		for _, text := range texts {
			for _, s := range []string{"B", "Q", "=", "\n"} {
				next = append(next, text+s)
				if judged(t, text+s) {
					rights++
				}
			}
		}
		texts = next
	}
	// Of the fours 16 have no =, 4 one, 2 two, as Q alone may stand ahead of it; of two fours the first is one of those 16.
	if rights != 22+16*22 {
		t.Errorf("%d are right", rights)
	}
}

// strangers: what other readers pass over, or take for a letter or for =.
var strangers = []string{
	" ", "\t", "\n", "\r", "\r\n", "\n\n", "\v", "\f", "    ", "\r\n\r\n", "\u0085", "\u00a0", "\u2028", "\ufeff",
	"-", "_", ",", ".", "~", ":", "!", "*", "%3D", "%2B", "\\", "\"", "'", "@", "[", "`", "{", "<", ">", "?", "^", "|",
	"\x00", "\x01", "\x1f", "\x7f", "\x80", "\xbd", "\xc1", "\xff", "\x00\x00\x00\x00", "\xff\xff\xff\xff",
	"é", "Ａ", "\u212a", "\u017f", "\u0410", "＝", "＋", "／", "٣", "\ufffd", "\U0001d400",
}

// P14.1: a stranger is wrong ahead, behind and within, put between or in place of what was there.
func TestStrangers(t *testing.T) {
	for _, stranger := range strangers {
		refuses(t, stranger)
		for _, text := range forms {
			for at := range len(text) + 1 {
				refuses(t, text[:at]+stranger+text[at:])
				refuses(t, text[:at]+stranger+text[min(len(text), at+len(stranger)):])
			}
			refuses(t, strings.Repeat(stranger, 4)+text)
			refuses(t, text+strings.Repeat(stranger, 4))
			refuses(t, text+stranger+text)
		}
	}
}

// P14.1: letters of the other kinds of base64, that in addresses, that without =, that in lines.
func TestOtherKindsOfLetters(t *testing.T) {
	reads(t, "+/+/", []byte{0xfb, 0xff, 0xbf})
	for _, text := range []string{"-_-_", "-/-/", "+_+_", "__8=", "_w==", "-A==", "+,+,"} {
		refuses(t, text)
	}
	for n := 1; n < 100; n++ {
		b := bytes.Repeat([]byte{0xfb, 0xff, 0xbf}, n)[:n]
		refuses(t, base64.URLEncoding.EncodeToString(b))
		refuses(t, base64.RawURLEncoding.EncodeToString(b))
		text := base64.RawStdEncoding.EncodeToString(b)
		if n%3 == 0 {
			reads(t, text, b)
		} else {
			refuses(t, text)
		}
		refuses(t, base64.StdEncoding.EncodeToString(b)+"\n")
		refuses(t, strings.Join(cut(base64.StdEncoding.EncodeToString(row(60+n)), 76), "\r\n"))
	}
	for _, letter := range []byte(signs) {
		refuses(t, "TWF"+string([]byte{letter | 0x80}))
	}
}

// P14.1: great and small letters are unlike ones.
func TestGreatAndSmallLetters(t *testing.T) {
	reads(t, "twfU", []byte{0xb7, 0x07, 0xd4})
	reads(t, "tw==", []byte{0xb7})
	reads(t, "TWFuTWFU", []byte{'M', 'a', 'n', 'M', 'a', 0x54})
	refuses(t, "tq==")
	for n := range 100 {
		judged(t, strings.ToLower(textOf(row(n))))
		judged(t, strings.ToUpper(textOf(row(n))))
	}
}

// P14.1: a right text with one sign more, wherever, or one less, is wrong; with two, three or four changed in number it is as reckoned.
func TestOneLetterMoreOrLess(t *testing.T) {
	for n := range 13 {
		text := textOf(row(n))
		for at := range len(text) {
			refuses(t, text[:at]+text[at+1:])
			for more := 2; at+more <= len(text); more++ {
				judged(t, text[:at]+text[at+more:])
			}
		}
		for at := range len(text) + 1 {
			for _, s := range []byte(signs) {
				one := text[:at] + string([]byte{s}) + text[at:]
				refuses(t, one)
				judged(t, one+"=")
				judged(t, one+"==")
				judged(t, one+"AAA")
			}
		}
	}
}

// P14.1: a long text is wrong wherever its one wrong sign stands.
func TestOneWrongSignOfALongText(t *testing.T) {
	for n := 298; n <= 300; n++ {
		text := textOf(row(n))
		for at := range len(text) {
			for _, s := range []string{"-", "\n", "\x00", "\xff"} {
				refuses(t, text[:at]+s+text[at+1:])
			}
			if at < len(text)-2 {
				refuses(t, text[:at]+"="+text[at+1:])
			}
		}
	}
}

// What is handed in isn't kept: changed behind the call, and asked for again, it is told as it is then. What is told is new memory, each time.
func TestArgumentsAndAnswersShareNothing(t *testing.T) {
	for n := 1; n < 40; n++ {
		b := row(n)
		first := b64.Text(b)
		if first != textOf(row(n)) {
			t.Fatalf("%d bytes: %q", n, first)
		}
		for i := range b {
			b[i] ^= 0xa5
			if got := b64.Text(b); got != textOf(b) {
				t.Errorf("a row that was changed behind a call: %q, not %q", got, textOf(b))
			}
		}
		if first != textOf(row(n)) {
			t.Errorf("a text changed with the bytes that it was made of: %q", first)
		}
		one, _ := b64.Bytes(first)
		two, _ := b64.Bytes(first)
		clear(one[:cap(one)])
		if !bytes.Equal(two, row(n)) {
			t.Errorf("two answers share memory: % x", two)
		}
		_ = append(two[:0], bytes.Repeat([]byte{0xff}, cap(two))...)
		if first != textOf(row(n)) {
			t.Errorf("a text changed with the bytes that were made of it: %q", first)
		}
		reads(t, first, row(n))
	}
	none, _ := b64.Bytes("")
	_ = append(none[:0], bytes.Repeat([]byte{0xff}, cap(none))...)
	reads(t, "", nil)
}

// What was asked before doesn't count: right texts and wrong ones, rows long and short, in drawn orders.
func TestCallsHangOnTheirArgumentsAlone(t *testing.T) {
	draw := rand.New(rand.NewSource(1))
	for range 3000 {
		b := row(draw.Intn(60))
		switch draw.Intn(4) {
		case 0:
			writes(t, b, textOf(b))
		case 1:
			reads(t, textOf(b), b)
		case 2:
			refuses(t, textOf(b)+"=")
		case 3:
			judged(t, forms[draw.Intn(len(forms))])
		}
	}
}

// P14.1, P14.2: drawn rows.
func TestDrawnRows(t *testing.T) {
	draw := rand.New(rand.NewSource(2))
	for range 5000 {
		b := make([]byte, draw.Intn(90))
		draw.Read(b)
		want := textOf(b)
		writes(t, b, want)
		reads(t, want, b)
		if library := base64.StdEncoding.EncodeToString(b); library != want {
			t.Fatalf("the letters reckoned here: %q, not %q", want, library)
		}
	}
}

// P14.1: drawn texts: of any signs, and right ones of which some signs were changed, moved, put in or taken out.
func TestDrawnTexts(t *testing.T) {
	draw := rand.New(rand.NewSource(3))
	rights := 0
	for i := range 60000 {
		text := make([]byte, 4*draw.Intn(4))
		for i := range text {
			text[i] = signs[draw.Intn(len(signs))]
		}
		if i%3 > 0 {
			text = []byte(textOf(row(draw.Intn(14))))
			for range draw.Intn(4) {
				text = turned(draw, text)
			}
		}
		if judged(t, string(text)) {
			rights++
		}
	}
	if rights < 10000 || rights > 50000 {
		t.Errorf("%d of the drawn texts are right", rights)
	}
}

// turned: a text with one change.
func turned(draw *rand.Rand, text []byte) []byte {
	at, s := draw.Intn(len(text)+1), signs[draw.Intn(len(signs))]
	if draw.Intn(4) == 0 {
		s = byte(draw.Intn(256))
	}
	switch kind := draw.Intn(4); {
	case kind == 0 || at == len(text):
		return append(append(bytes.Clone(text[:at]), s), text[at:]...)
	case kind == 1:
		return append(bytes.Clone(text[:at]), text[at+1:]...)
	case kind == 2:
		text[at] = s
	default:
		other := draw.Intn(len(text))
		text[at], text[other] = text[other], text[at]
	}
	return text
}
