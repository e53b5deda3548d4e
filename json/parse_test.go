package json_test

import (
	"fmt"
	"math/big"
	"strings"
	"testing"

	"orlop/api"
)

// blanks are those that may stand around values and between parts; strangers are what others take for a blank.
var (
	blanks    = []string{"\x09", "\x0a", "\x0d", "\x20", "\r\n", " \t\n\r \t\n\r"}
	strangers = []string{"\x00", "\x08", "\x0b", "\x0c", "\x0e", "\x1f", "\x7f", "\x85", "\xa0", "\u0085", "\u00a0", "\u1680", "\u2003", "\u2028", "\u2029", "\u202f", "\u3000", "\ufeff", "\u200b", "//", "/**/", "#"}
)

// wrong: a text is none of a value, alone and with blanks around it, within lists and maps, behind other values and ahead of them.
func wrong(t *testing.T, b string) {
	t.Helper()
	for _, form := range []string{"%s", " %s", "%s\n", "\t\r\n %s ", "[%s]", "[1,%s]", "[ %s ,1]", `{"a":%s}`, `{"b":[],"a":%s,"c":1}`, `[[[{"a":[{"b":%s}]}]]]`} {
		refuses(t, strings.Replace(form, "%s", b, 1), api.ErrFormat)
	}
}

// right: a text is a value, alone and with blanks around it, within lists and maps.
func right(t *testing.T, b string, v api.Value) {
	t.Helper()
	reads(t, b, v)
	for _, blank := range blanks {
		reads(t, blank+b, v)
		reads(t, b+blank, v)
		reads(t, blank+b+blank, v)
		reads(t, "["+blank+b+blank+"]", list(v))
	}
	reads(t, "["+b+"]", list(v))
	reads(t, "["+b+","+b+",1]", list(v, v, num(1)))
	reads(t, `{"a":`+b+`,"":`+b+`}`, object("a", v, "", v))
	reads(t, `[[{"a":[{"b":`+b+`}]}],`+b+`]`, list(list(object("a", list(object("b", v)))), v))
}

// digits: a number, told by digits.
func digits(n int) string { return fmt.Sprintf(`\u%04x`, n) }

// The chapter's examples, and DOC.md's depth.
func TestExamples(t *testing.T) {
	reads(t, `{"a":[1,-2,"x\n"],"b":null}`, object("a", list(num(1), num(-2), text("x\n")), "b", null()))
	for _, b := range []string{"01", "1.5", "[1,]", `{"a":1,"a":2}`} {
		refuses(t, b, api.ErrFormat)
	}
	refuses(t, strings.Repeat("[", 17), api.ErrLimit)
	refuses(t, strings.Repeat("[", 17)+strings.Repeat("]", 17), api.ErrLimit)
}

// P15.1: null and the truths, and what is nearly one of them.
func TestWordsOfValues(t *testing.T) {
	right(t, "null", null())
	right(t, "true", truth(true))
	right(t, "false", truth(false))
	for _, word := range []string{"null", "true", "false"} {
		for n := range len(word) {
			wrong(t, word[:n]+"x")
			wrong(t, word[:n]+strings.ToUpper(word[n:]))
			wrong(t, word[:n]+" "+word[n:]+"x")
			if n > 0 {
				wrong(t, word[:n])
				wrong(t, word[n:])
				wrong(t, word[:n]+" "+word[n:])
				wrong(t, word[:n]+"\x00"+word[n:])
			}
		}
		for _, more := range []string{"x", "l", "e", "0", "null", "true", "\"\"", "[]", "{}", "_", "\x00", "\xff"} {
			wrong(t, word+more)
		}
		wrong(t, "-"+word)
		wrong(t, "'"+word+"'")
		wrong(t, `\u00`+fmt.Sprintf("%x", word[0])+word[1:])
	}
	for _, b := range []string{"nil", "none", "None", "undefined", "NaN", "nan", "Infinity", "-Infinity", "inf", "yes", "x", "N", "?", ".", "\\", "/", "'a'", "`a`", "a", "(1)", "<1>", "\u00e9", "\ufffd", "\x00", "\x7f", "\x80", "\xff"} {
		wrong(t, b)
	}
}

// P15.1: whole numbers, from the least to the greatest.
func TestNumbers(t *testing.T) {
	for _, n := range []int64{0, 1, -1, 2, -2, 7, 9, 10, -10, 11, 99, 100, -100, 101, 123456789, 1000000000, -1000000000, 1<<31 - 1, 1 << 31, -1 << 31, 1<<32 - 1, 1 << 32, 1<<52 - 1, 1 << 52, 1<<53 - 2, 9007199254740990, greatest, -9007199254740990, -greatest} {
		right(t, fmt.Sprint(n), num(n))
	}
	for n := int64(0); n <= 1100; n++ {
		reads(t, fmt.Sprint(n), num(n))
		reads(t, fmt.Sprint(greatest-n), num(greatest-n))
		if n > 0 {
			reads(t, fmt.Sprint(-n), num(-n))
			reads(t, fmt.Sprint(n-greatest), num(n-greatest))
			refuses(t, fmt.Sprint(greatest+n), api.ErrFormat)
			refuses(t, fmt.Sprint(-greatest-n), api.ErrFormat)
		}
	}
}

// P15.1: numbers beyond both ends, however far: around each power of two, with many digits more.
func TestNumbersBeyondTheEnds(t *testing.T) {
	for bits := range 200 {
		for off := int64(-3); off <= 3; off++ {
			n := new(big.Int).Lsh(big.NewInt(1), uint(bits))
			n.Add(n, big.NewInt(off))
			for _, n := range []*big.Int{n, new(big.Int).Neg(n)} {
				if n.IsInt64() && n.Int64() <= greatest && n.Int64() >= -greatest {
					reads(t, n.String(), num(n.Int64()))
				} else {
					refuses(t, n.String(), api.ErrFormat)
				}
			}
		}
	}
	for _, b := range []string{"9007199254740992", "-9007199254740992", "9007199254740993", "9223372036854775807", "-9223372036854775808", "9223372036854775808", "18446744073709551615", "18446744073709551616", "18446744073709551617", "99999999999999999", "10000000000000000", "90071992547409910"} {
		wrong(t, b)
		wrong(t, b+strings.Repeat("0", 30))
	}
	for n := 17; n < 400; n++ {
		refuses(t, strings.Repeat("9", n), api.ErrFormat)
		refuses(t, "-1"+strings.Repeat("0", n-1), api.ErrFormat)
	}
	refuses(t, strings.Repeat("1", longest), api.ErrFormat)
	refuses(t, "-"+strings.Repeat("0", longest-1), api.ErrFormat)
}

// P15.1: what other readers take for a number.
func TestWhatIsNoNumber(t *testing.T) {
	for _, b := range []string{
		"-0", "00", "01", "-01", "-00", "000", "007", "010", "0000000000000000000000000000000001", "-", "--", "--1", "-+1", "+", "+1", "+0", "1-", "1-2", "1+2", "-1-", "- 1", "-\n1", "1 2", "0 0", "-x",
		"1.0", "1.5", "0.0", "1.", ".1", "-.1", "-1.0", "0.", "1e3", "1E3", "1e0", "1e+3", "1e-3", "0e0", "1e", "e1", "10e-1", "0x1", "0X1", "0xff", "0b1", "0o7", "1_000", "1,000", "1'000", "1n", "1L", "1f", "1a", "a1", "0a", "1\x00", "\x001", "1\xff",
		"9007199254740991.0", "1e16", "९", "１", "٣", "²", "−1", "–1", "½", "Ⅷ", "1\u0301", "1;",
	} {
		wrong(t, b)
	}
}

// P15.1: texts with each escape that there is, and with those that there aren't.
func TestEscapes(t *testing.T) {
	known := map[byte]string{'"': "\"", '\\': "\\", '/': "/", 'b': "\x08", 'f': "\x0c", 'n': "\x0a", 'r': "\x0d", 't': "\x09"}
	for c := range 256 {
		b := `\` + string([]byte{byte(c)})
		if s, ok := known[byte(c)]; ok {
			right(t, `"`+b+`"`, text(s))
			reads(t, `"a`+b+`b`+b+b+`"`, text("a"+s+"b"+s+s))
			reads(t, `{"`+b+`":"`+b+`"}`, object(s, text(s)))
		} else {
			wrong(t, `"`+b+`"`)
			wrong(t, `"a`+b+`b"`)
			wrong(t, `{"`+b+`":1}`)
		}
		wrong(t, b)
	}
	reads(t, `"\"\\\/\b\f\n\r\t\u0041/"`, text("\"\\/\x08\x0c\x0a\x0d\x09A/"))
	reads(t, `"\\n\\u0041\\\\\""`, text(`\n\u0041\\"`))
	for _, b := range []string{`"\"`, `"\\\"`, `"\`, `"a\`, `"\\\`, `"\\"\""`, `"\U0041"`, `"\x41"`, `"\101"`, `"\0"`, `"\'"`, `"\a"`, `"\v"`, `"\e"`, `"\u{41}"`, `"\N"`, `"\B"`, "\"\\\n\"", "\"\\\u00e9\""} {
		wrong(t, b)
	}
}

// P15.1: each of the 65536 numbers of four digits, which are small or great ones.
func TestRunesByDigits(t *testing.T) {
	for n := range 1 << 16 {
		for _, b := range []string{fmt.Sprintf(`"\u%04x"`, n), fmt.Sprintf(`"a\u%04Xb"`, n)} {
			v, code := parse(t, []byte(b))
			want, wantCode := text(strings.Replace(b[1:len(b)-1], b[strings.Index(b, `\`):strings.Index(b, `\`)+6], string(rune(n)), 1)), api.OK
			if n >= 0xd800 && n < 0xe000 {
				want, wantCode = api.Value{}, api.ErrFormat
			}
			if code != wantCode || !alike(v, want) {
				t.Fatalf("Parse(%s): %#v, code %d", b, v, code)
			}
		}
	}
	for _, b := range []string{`"\u00e9"`, `"\u00E9"`, `"é"`} {
		right(t, b, text("\u00e9"))
	}
	for _, b := range []string{`"\uaBcD"`, `"\uAbCd"`, `"\uabcd"`, `"\uABCD"`, "\"\uabcd\""} {
		right(t, b, text("\uabcd"))
	}
	right(t, `"\u0000"`, text("\x00"))
	right(t, `"\u0022\u005c\u005C\u002f\u001f\u007f"`, text("\"\\\\/\x1f\x7f"))
	right(t, `"\u005cu0041"`, text(`\u0041`))
	right(t, `"\ufffd\ufffe\uffff\ud7ff\ue000\ufeff"`, text("\ufffd\ufffe\uffff\ud7ff\ue000\ufeff"))
	right(t, `"\u00411\u00e9e\u12345"`, text("A1\u00e9e\u12345"))
}

// P15.1: fewer than four digits, and digits that are none.
func TestDigitsThatAreNone(t *testing.T) {
	for _, b := range []string{`"\u"`, `"\u1"`, `"\u12"`, `"\u123"`, `"\u`, `"\u1`, `"\u12`, `"\u123`, `"\u1234`, `"\u12"34"`, `"\u 123"`, `"\u123 "`, `"\u\u0041"`, `"\u00\u0041"`, `"\u+123"`, `"\u-123"`, `"\u0x12"`, `"\u0X12"`, `"\u1_23"`, `"\u12.3"`, `"\u1e+1"`, "\"\\u123\n\"", "\"\\u\x00123\"", `"\uＡＢ"`, "\"\\u\u0663\u0663\"", "\"\\u12\u00e9\"", "\"\\u12\u212a\"", `"\u{1}"`, `"\u12\n3"`} {
		wrong(t, b)
	}
	for at := range 4 {
		for c := range 256 {
			four := []byte("00aF")
			four[at] = byte(c)
			b := `"\u` + string(four) + `"`
			if strings.ContainsRune("0123456789abcdefABCDEF", rune(c)) {
				judged(t, b)
			} else {
				refuses(t, b, api.ErrFormat)
			}
		}
	}
}

// P15.1: halves of a rune beyond FFFF: both, one alone, in the wrong order, the second one no half.
func TestHalvesOfRunes(t *testing.T) {
	ends := []int{0xd800, 0xd801, 0xd83d, 0xdbfe, 0xdbff, 0xdc00, 0xdc01, 0xde00, 0xdffe, 0xdfff}
	others := []int{0, 0x22, 0x41, 0x5c, 0xd7ff, 0xe000, 0xfffd, 0xffff}
	for _, one := range ends {
		wrong(t, `"`+digits(one)+`"`)
		for _, two := range append(ends, others...) {
			pair := digits(one) + digits(two)
			if one >= 0xdc00 || two < 0xdc00 || two > 0xdfff {
				wrong(t, `"`+pair+`"`)
				wrong(t, `{"a`+pair+`b":1}`)
				continue
			}
			r := rune(0x10000 + (one-0xd800)*0x400 + (two - 0xdc00))
			reads(t, `"`+pair+`"`, text(string(r)))
			reads(t, `{"a`+pair+`b`+pair+pair+`":"`+string(r)+`"}`, object("a"+string(r)+"b"+string(r)+string(r), text(string(r))))
			for _, between := range []string{"a", " ", `\n`, `\\`, `\u0041`, "\u00e9", `\`, `"`} {
				wrong(t, `"`+digits(one)+between+digits(two)+`"`)
			}
			wrong(t, `"`+pair+digits(two)+`"`)
			wrong(t, `"`+pair+digits(one)+`"`)
			wrong(t, `"`+digits(one)+pair+`"`)
			wrong(t, `"`+pair[:len(pair)-1]+`"`)
			wrong(t, `"`+digits(one)+`\U`+pair[8:]+`"`)
			wrong(t, `"`+digits(one)+`u`+pair[8:]+`"`)
			wrong(t, `"`+digits(one)+pair[8:]+`"`)
		}
	}
	right(t, `"\ud83d\ude00"`, text("\U0001f600"))
	right(t, `"\uD83D\uDE00"`, text("\U0001f600"))
	right(t, `"\uD83d\udE00x"`, text("\U0001f600x"))
	right(t, `"\ud800\udc00\udbff\udfff"`, text("\U00010000\U0010ffff"))
	for n := 0xd800; n < 0xe000; n++ {
		refuses(t, `"`+digits(n)+`\ud800"`, api.ErrFormat)
		judged(t, `"`+digits(n)+`\udc00"`)
		judged(t, `"\udbff`+digits(n)+`"`)
		refuses(t, `"`+digits(n)+`\"`, api.ErrFormat)
	}
}

// P15.1: each byte bare within a text: below 20 none may be, 7F may, of 80 on none may be alone.
func TestBareBytes(t *testing.T) {
	for c := range 256 {
		s := string([]byte{byte(c)})
		switch {
		case c == '"' || c == '\\':
			wrong(t, `"`+s+`"`)
			wrong(t, `{"`+s+`":1}`)
		case c >= 0x20 && c < 0x80:
			right(t, `"`+s+`"`, text(s))
			reads(t, `{"a`+s+`":"`+s+s+`b"}`, object("a"+s, text(s+s+"b")))
		default:
			wrong(t, `"`+s+`"`)
			wrong(t, `"a`+s+`b"`)
			wrong(t, `"`+s)
			wrong(t, `{"`+s+`":1}`)
			wrong(t, `{"a`+s+`b":1}`)
		}
	}
	right(t, `""`, text(""))
	right(t, "\"\x7f\u0080\u0085\u00a0\u2028\u2029\ufeff\ufffd\ufffe\U0010ffff\"", text("\x7f\u0080\u0085\u00a0\u2028\u2029\ufeff\ufffd\ufffe\U0010ffff"))
}

// P15.1: UTF-8 of one to four bytes, at each edge; forms that are too long, halves, beyond 10FFFF, cut off.
func TestUTF8(t *testing.T) {
	for _, r := range []rune{0x20, 0x7e, 0x7f, 0x80, 0x81, 0xa0, 0xff, 0x100, 0x7fe, 0x7ff, 0x800, 0x801, 0xfff, 0x1000, 0xd7fe, 0xd7ff, 0xe000, 0xe001, 0xfdd0, 0xfeff, 0xfffc, 0xfffd, 0xfffe, 0xffff, 0x10000, 0x10001, 0x1f600, 0x3ffff, 0x40000, 0xfffff, 0x100000, 0x10fffe, 0x10ffff} {
		s := string(r)
		right(t, `"`+s+`"`, text(s))
		reads(t, `{"`+s+`":"a`+s+s+`"}`, object(s, text("a"+s+s)))
		for n := 1; n < len(s); n++ {
			for _, cut := range []string{s[:n], s[n:], s[:n] + "a", "a" + s[n:], s[:n] + s, s + s[n:], s[:n] + `\n`, s[:n] + " " + s[n:]} {
				wrong(t, `"`+cut+`"`)
				wrong(t, `{"`+cut+`":1}`)
			}
			refuses(t, `"`+s[:n], api.ErrFormat)
		}
	}
	for _, bad := range []string{
		"\xc0\x80", "\xc0\x8a", "\xc0\xa2", "\xc0\xaf", "\xc1\x81", "\xc1\xbf", "\xe0\x80\x80", "\xe0\x80\xaf", "\xe0\x81\x81", "\xe0\x9f\xbf", "\xf0\x80\x80\x80", "\xf0\x80\x80\xaf", "\xf0\x8f\xbf\xbf", "\xf8\x80\x80\x80\x80", "\xfc\x80\x80\x80\x80\x80",
		"\xed\xa0\x80", "\xed\xad\xbf", "\xed\xae\x80", "\xed\xaf\xbf", "\xed\xb0\x80", "\xed\xbf\xbf", "\xed\xa0\xbd\xed\xb8\x80",
		"\xf4\x90\x80\x80", "\xf4\xbf\xbf\xbf", "\xf5\x80\x80\x80", "\xf7\xbf\xbf\xbf", "\xfb\xbf\xbf\xbf\xbf", "\xfd\xbf\xbf\xbf\xbf\xbf", "\xfe", "\xff", "\xfe\xff", "\xff\xfe", "\x80", "\xbf", "\x80\x80", "\xe9", "\xa9\xc3", "\xe2\x28\xa1", "\xe2\x82\x28", "\xf0\x28\x8c\xbc", "\xc3\x28", "\xc2", "\xe2\x82", "\xf0\x9f\x98",
	} {
		for _, b := range []string{bad, "a" + bad, bad + "b", "\u00e9" + bad + "\U0001f600", `\n` + bad + `\u0041`, `\ud83d\ude00` + bad} {
			wrong(t, `"`+b+`"`)
			wrong(t, `{"`+b+`":1}`)
			wrong(t, `{"a":1,"`+b+`":1}`)
		}
		wrong(t, bad)
	}
	for first := range 256 {
		for second := range 256 {
			judged(t, string([]byte{'"', byte(first), byte(second), '"'}))
		}
	}
}

// P15.1: texts that aren't closed, or not by what they were opened with.
func TestTextsThatAreNotClosed(t *testing.T) {
	for _, b := range []string{`"`, `"a`, `"a'`, `'a"`, `a"`, `"a\"`, `"a\\\"`, `"""`, `"a"b"`, `"a" "b"`, `"a""b"`, "\"a\n", "\"a\n\"", "“a”", `"a` + "\u201d", `"\u0022`} {
		wrong(t, b)
	}
	refuses(t, `["a]`, api.ErrFormat)
	refuses(t, `{"a:1}`, api.ErrFormat)
	refuses(t, `["a,"b"]`, api.ErrFormat)
}

// P15.1: empty lists and maps, of one, of many, in one another; members keep their order.
func TestListsAndMaps(t *testing.T) {
	right(t, "[]", list())
	right(t, "{}", object())
	right(t, "[[]]", list(list()))
	right(t, "[{}]", list(object()))
	right(t, `{"a":[]}`, object("a", list()))
	right(t, `{"a":{}}`, object("a", object()))
	right(t, `[[],{},[[],[]],null]`, list(list(), object(), list(list(), list()), null()))
	right(t, `[1]`, list(num(1)))
	right(t, `["a","a","a"]`, list(text("a"), text("a"), text("a")))
	right(t, `{"b":1,"a":2,"C":3,"":4,"aa":5}`, object("b", num(1), "a", num(2), "C", num(3), "", num(4), "aa", num(5)))
	right(t, `{"null":null,"true":false,"[":"]","1":1,"a:b":"c,d"}`, object("null", null(), "true", truth(false), "[", text("]"), "1", num(1), "a:b", text("c,d")))
	for _, n := range []int{2, 3, 7, 8, 9, 100, 1000} {
		elements, members := list(), object()
		for i := range n {
			elements.List = append(elements.List, num(int64(n-i)))
			members.Map = append(members.Map, api.Member{Name: fmt.Sprint((i*7)%n, "/", i), Value: list(num(int64(i)))})
		}
		reads(t, textOf(elements), elements)
		reads(t, textOf(members), members)
	}
}

// parts: texts of one value each, cut at every place where blanks may stand.
var parts = []struct {
	cut []string
	v   api.Value
}{
	{[]string{"null"}, null()},
	{[]string{"-12"}, num(-12)},
	{[]string{`"a b"`}, text("a b")},
	{[]string{"[", "]"}, list()},
	{[]string{"{", "}"}, object()},
	{[]string{"[", "1", ",", "true", ",", `"x"`, "]"}, list(num(1), truth(true), text("x"))},
	{[]string{"{", `"a"`, ":", "0", ",", `"b"`, ":", "false", "}"}, object("a", num(0), "b", truth(false))},
	{[]string{"[", "[", "]", ",", "{", "}", ",", "{", `"k"`, ":", "[", "null", "]", "}", "]"}, list(list(), object(), object("k", list(null())))},
	{[]string{"{", `"a"`, ":", "{", `"b"`, ":", "[", "-1", ",", `""`, "]", "}", ",", `""`, ":", "null", "}"}, object("a", object("b", list(num(-1), text(""))), "", null())},
}

// P15.1: blanks at every place where they may stand, and none that isn't one.
func TestBlanks(t *testing.T) {
	for _, p := range parts {
		reads(t, strings.Join(p.cut, ""), p.v)
		for at := range len(p.cut) + 1 {
			ahead, behind := strings.Join(p.cut[:at], ""), strings.Join(p.cut[at:], "")
			for _, blank := range blanks {
				reads(t, ahead+blank+behind, p.v)
			}
			for _, stranger := range strangers {
				refuses(t, ahead+stranger+behind, api.ErrFormat)
				refuses(t, ahead+" "+stranger+" "+behind, api.ErrFormat)
			}
		}
		for _, blank := range blanks {
			reads(t, blank+strings.Join(p.cut, blank)+blank, p.v)
		}
		for _, stranger := range strangers {
			refuses(t, strings.Join(p.cut, "")+"\n"+stranger, api.ErrFormat)
		}
	}
	for _, b := range []string{"nu ll", "- 1", "1 0", "t\nrue", "\" \n\"", `"\ n"`, `"\u 0041"`, `"\u00 41"`, `"\ud83d \ude00"`} {
		wrong(t, b)
	}
	reads(t, "\" \u00a0 \"", text(" \u00a0 "))
}

// P15.1: a part too few, one twice, or another one in its place.
func TestPartsTooManyOrTooFew(t *testing.T) {
	for _, p := range parts[3:] {
		for at := range p.cut {
			without := strings.Join(p.cut[:at], "") + strings.Join(p.cut[at+1:], "")
			judged(t, without)
			judged(t, strings.Join(p.cut[:at+1], "")+strings.Join(p.cut[at:], ""))
			refuses(t, strings.Join(p.cut[:at], ""), api.ErrFormat)
			for _, other := range []string{",", ":", ";", "[", "]", "{", "}", "(", ")", "1", `"a"`, "null", "{}", "[]", ",,", "::", "="} {
				judged(t, strings.Join(p.cut[:at], "")+other+strings.Join(p.cut[at+1:], ""))
				judged(t, strings.Join(p.cut[:at], "")+other+strings.Join(p.cut[at:], ""))
			}
		}
	}
	for _, b := range []string{
		"[1,]", "[,]", "[,1]", "[1,,2]", "[1 2]", "[1,2,]", "[[],]", "[1;2]", "[1:2]", "[\"a\":1]", "[,", "[1,", "[1", "[", "[[]", "[[1]", "[[1],", "]", "[]]", "[1]]", "[}", "[1}", "[)", "(1)", "[1)", "[[1],[2]", "[1][2]", "[][]",
		"{,}", `{"a":1,}`, `{,"a":1}`, `{"a":1,,"b":2}`, `{"a":1 "b":2}`, `{"a":1;"b":2}`, `{"a" 1}`, `{"a":}`, `{"a"}`, `{"a",}`, `{"a","b"}`, `{"a"::1}`, `{"a":1:2}`, `{:1}`, `{"a"=1}`, `{"a"=>1}`, "{", `{"a"`, `{"a":`, `{"a":1`, `{"a":1,`, `{"a":1,"b"`, "}", "{}}", "{]", `{"a":1]`, `{"a":[}]`, `{"a":[1}`, `[{]}`, `[{"a":1]}`, `{}{}`, `{"a":1}{"b":1}`,
	} {
		refuses(t, b, api.ErrFormat)
		refuses(t, " "+b+" ", api.ErrFormat)
	}
}

// P15.1: a name is a text, and none other than a text.
func TestNamesThatAreNoTexts(t *testing.T) {
	for _, name := range []string{"a", "1", "-1", "null", "true", "false", "[]", "{}", `["a"]`, `{"a":1}`, "'a'", "`a`", "", "$", `"a" "b"`, `"a""b"`, `"a`, `a"`, `"\q"`, "\"\n\"", "\"\xff\"", `"\ud800"`, `\u0022a"`} {
		for _, form := range []string{"{%s:1}", "{ %s : 1 }", `{"z":1,%s:1}`, `{%s:1,"z":1}`, `[{"y":{%s:{}}}]`} {
			refuses(t, strings.Replace(form, "%s", name, 1), api.ErrFormat)
		}
	}
}

// P15.1: no two members of one map have one name, however that is written; those of unlike maps may.
func TestMembersOfOneName(t *testing.T) {
	for _, names := range [][]string{
		{`""`, `""`}, {`"a"`, `"a"`}, {`"a"`, `"\u0061"`}, {`"\u0061"`, `"a"`}, {`"\u0061"`, `"\u0061"`}, {`"/"`, `"\/"`}, {`"\n"`, `"\u000a"`}, {`"\u000A"`, `"\u000a"`}, {`"\""`, `"\u0022"`}, {`"\\"`, `"\u005C"`},
		{`"\u00e9"`, `"é"`}, {`"\ud83d\ude00"`, `"😀"`}, {`"\u0000"`, `"\u0000"`}, {`"ab"`, `"\u0061\u0062"`}, {`"aa"`, `"\u0061a"`}, {`"A"`, `"A"`}, {`"É"`, `"\u00c9"`}, {`"\ufffd"`, "\"\ufffd\""},
	} {
		one, two := names[0], names[1]
		for _, form := range []string{"{1:1,2:1}", "{1:1,2:2}", "{1 : [] ,\n2 : null }", `{"x":0,1:1,"y":0,2:1,"z":0}`, "{1:{},2:{}}", "[{1:1,2:1}]", `{"x":{"y":[{1:0,2:0}]}}`, "{1:{1:0},2:0}", "{1:0,2:{}"} {
			refuses(t, strings.NewReplacer("1:", one+":", "2:", two+":", "1 :", one+" :", "2 :", two+" :").Replace(form), api.ErrFormat)
		}
		for _, form := range []string{"[{1:1},{2:1}]", "{1:{2:{1:{2:[{1:0}]}}}}", `{"x":{1:0},"y":{2:0}}`, `{1:[{2:0},{1:0}]}`} {
			if code := judged(t, strings.NewReplacer("1:", one+":", "2:", two+":").Replace(form)); code != api.OK {
				t.Errorf("%s: code %d", form, code)
			}
		}
	}
	right(t, `{"a":1,"A":2,"a ":3," a":4,"\u00e9":5,"e\u0301":6,"a\u0000":7,"\\u0061":8}`, object("a", num(1), "A", num(2), "a ", num(3), " a", num(4), "\u00e9", num(5), "e\u0301", num(6), "a\x00", num(7), `\u0061`, num(8)))
	right(t, `{"A":1,"a":2,"É":3,"é":4,"ǅ":5,"ǆ":6,"ß":7,"SS":8,"ss":9}`, object("A", num(1), "a", num(2), "É", num(3), "é", num(4), "ǅ", num(5), "ǆ", num(6), "ß", num(7), "SS", num(8), "ss", num(9)))
	for n := 2; n < 300; n += 37 {
		var b []string
		for i := range n {
			b = append(b, fmt.Sprintf(`"%d":%d`, i, i))
		}
		for i := range n {
			judged(t, "{"+strings.Join(b, ",")+"}")
			refuses(t, "{"+strings.Join(b, ",")+fmt.Sprintf(`,"%d":0}`, i), api.ErrFormat)
		}
	}
}

// P15.1: nothing, blanks alone, two values, a value with more behind it.
func TestNothingAndTooMuch(t *testing.T) {
	for _, b := range append(blanks, "", "  ", strings.Repeat(" \n", 1000), strings.Repeat(" ", longest)) {
		refuses(t, b, api.ErrFormat)
	}
	values := []string{"null", "true", "0", "-1", `""`, `"a"`, "[]", "[1]", "{}", `{"a":1}`}
	for _, one := range values {
		for _, two := range values {
			for _, between := range []string{"", " ", "\n", ",", ":", ";", ", ", "\x00", "\x1e"} {
				judged(t, one+between+two)
				judged(t, one+between+two+between)
			}
			refuses(t, one+" "+two, api.ErrFormat)
			refuses(t, one+","+two, api.ErrFormat)
		}
		for _, more := range []string{",", ":", "]", "}", "[", "{", "\"", "x", "\x00", "\xff", "//", "\ufeff", ";", "\\"} {
			refuses(t, one+more, api.ErrFormat)
			refuses(t, one+" "+more, api.ErrFormat)
		}
		refuses(t, "\ufeff"+one, api.ErrFormat)
	}
}
