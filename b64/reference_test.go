package b64_test

import (
	"bytes"
	"fmt"
	"math/rand"
	"regexp"
	"strconv"
	"strings"
	"testing"

	"orlop/b64"
)

// signs: all that a right text has.
const signs = "ABCDEFGHIJKLMNOPQRSTUVWXYZabcdefghijklmnopqrstuvwxyz0123456789+/="

// sign: the letter for 0 to 63, by its place in its own part of the letters.
func sign(n int) byte {
	switch {
	case n < 26:
		return byte('A' + n)
	case n < 52:
		return byte('a' + n - 26)
	case n < 62:
		return byte('0' + n - 52)
	case n == 62:
		return '+'
	}
	return '/'
}

// worth: the number for which a letter stands.
func worth(letter byte) int {
	for n := range 64 {
		if sign(n) == letter {
			return n
		}
	}
	panic("no letter")
}

// textOf: a row's letters: its bits, written as digits, are cut by six.
func textOf(b []byte) string {
	var digits strings.Builder
	for _, v := range b {
		fmt.Fprintf(&digits, "%08b", v)
	}
	var out []byte
	for _, six := range cut(digits.String(), 6) {
		out = append(out, sign(number(six+strings.Repeat("0", 6-len(six)))))
	}
	for len(out)%4 != 0 {
		out = append(out, '=')
	}
	return string(out)
}

// right: what a right text looks like: fours of letters, and at the end maybe one that is filled up, whose last letter is one of those without a bit left over.
var right = regexp.MustCompile(`\A(?:[A-Za-z0-9+/]{4})*(?:[A-Za-z0-9+/]{2}[AEIMQUYcgkosw048]=|[A-Za-z0-9+/][AQgw]==)?\z`)

// bytesOf: a text's bytes, if it is right: its letters' bits, written as digits, are cut by eight.
func bytesOf(text string) ([]byte, bool) {
	if !right.MatchString(text) {
		return nil, false
	}
	var digits strings.Builder
	for _, letter := range []byte(strings.ReplaceAll(text, "=", "")) {
		fmt.Fprintf(&digits, "%06b", worth(letter))
	}
	var out []byte
	for _, eight := range cut(digits.String(), 8) {
		if len(eight) == 8 {
			out = append(out, byte(number(eight)))
		}
	}
	return out, true
}

// cut: a text's pieces of n signs; the last one may have fewer.
func cut(text string, n int) []string {
	var out []string
	for len(text) > n {
		out, text = append(out, text[:n]), text[n:]
	}
	if text != "" {
		out = append(out, text)
	}
	return out
}

func number(digits string) int {
	n, err := strconv.ParseUint(digits, 2, 8)
	if err != nil {
		panic(err)
	}
	return int(n)
}

// writes: Text of a row is this text. The row is handed in amid other bytes, which may neither be taken for its own nor be changed, and is written over behind the call.
func writes(t *testing.T, b []byte, want string) {
	t.Helper()
	whole := append(append([]byte("\xa5\x5a\xc3"), b...), "\xff\x99\x66\xff"...)
	kept := bytes.Clone(whole)
	got := b64.Text(whole[3 : 3+len(b)])
	if !bytes.Equal(whole, kept) {
		t.Fatalf("Text of % x: the row, or what lies beside it, was changed", short(b))
	}
	for i := range whole {
		whole[i] ^= 0xff
	}
	if got != want {
		t.Fatalf("Text(% x): %q, not %q", short(b), short(got), short(want))
	}
}

// reads: Bytes of a text are these bytes, and true; and again, when what was told has been written over.
func reads(t *testing.T, text string, want []byte) {
	t.Helper()
	for range 2 {
		got, ok := b64.Bytes(text)
		if !ok || !bytes.Equal(got, want) {
			t.Fatalf("Bytes(%q): % x, %v, not % x", short(text), short(got), ok, short(want))
		}
		got = got[:cap(got)]
		for i := range got {
			got[i] ^= 0xff
		}
	}
}

// refuses: Bytes of a text are none, and false.
func refuses(t *testing.T, text string) {
	t.Helper()
	if got, ok := b64.Bytes(text); ok || len(got) != 0 {
		t.Fatalf("Bytes(%q): % x, %v", short(text), short(got), ok)
	}
}

// judged: Bytes of a text are as they are reckoned here; whether it is right.
func judged(t *testing.T, text string) bool {
	t.Helper()
	want, may := bytesOf(text)
	if may {
		reads(t, text, want)
	} else {
		refuses(t, text)
	}
	return may
}

// short: a row's or a text's beginning, to be told when something is wrong.
func short[T string | []byte](row T) T { return row[:min(len(row), 60)] }

// row: n bytes of which hardly two neighbours are alike, the same each time.
func row(n int) []byte { return drawn(14, n) }

func drawn(seed int64, n int) []byte {
	b := make([]byte, n)
	rand.New(rand.NewSource(seed)).Read(b)
	return b
}
