package json

import (
	"strconv"
	"strings"
	"unicode/utf8"

	"orlop/api"
)

// malformed leaves the parser where what is read is none of a value.
type malformed struct{}

// tooDeep leaves the parser where a value would have to begin within MaxDepth others.
type tooDeep struct{}

// Parse: a text's value. ErrLimit, ErrFormat. It reads from the first byte to the last one and leaves at the first wrong thing, which so is the one that counts.
func Parse(b []byte) (v api.Value, code api.Code) {
	if len(b) > api.MaxJSON {
		return api.Value{}, api.ErrLimit
	}
	defer func() {
		switch recover().(type) {
		case nil:
		case tooDeep:
			v, code = api.Value{}, api.ErrLimit
		default: // malformed; whatever else there might be mustn't leave the call either
			v, code = api.Value{}, api.ErrFormat
		}
	}()
	r := reader{rest: string(b)}
	v = r.value(1)
	if r.rest != "" {
		panic(malformed{})
	}
	return v, api.OK
}

// reader is a text that is being read: what of it hasn't been.
type reader struct{ rest string }

// value: the value that comes, with the blanks around it, so deep within others.
func (r *reader) value(depth int) api.Value {
	if depth > api.MaxDepth {
		panic(tooDeep{})
	}
	r.blanks()
	v := r.bare(depth)
	r.blanks()
	return v
}

func (r *reader) bare(depth int) api.Value {
	switch {
	case r.took("null"):
		return api.Value{Kind: api.Null}
	case r.took("true"):
		return api.Value{Kind: api.Bool, Bool: true}
	case r.took("false"):
		return api.Value{Kind: api.Bool}
	case r.took(`"`):
		return api.Value{Kind: api.Text, Text: r.text()}
	case r.took("["):
		return api.Value{Kind: api.List, List: r.list(depth + 1)}
	case r.took("{"):
		return api.Value{Kind: api.Map, Map: r.members(depth + 1)}
	}
	return api.Value{Kind: api.Num, Num: r.number()}
}

// list: the elements up to the bracket that ends them.
func (r *reader) list(depth int) []api.Value {
	var out []api.Value
	r.parts("]", func() { out = append(out, r.value(depth)) })
	return out
}

// members: those up to the bracket that ends them. A name that was there counts as wrong where it stands, ahead of what its value may be.
func (r *reader) members(depth int) []api.Member {
	var out []api.Member
	isNew := names()
	r.parts("}", func() {
		r.blanks()
		r.must(`"`)
		name := r.text()
		if !isNew(name) {
			panic(malformed{})
		}
		r.blanks()
		r.must(":")
		out = append(out, api.Member{Name: name, Value: r.value(depth)})
	})
	return out
}

// parts: each part is read, and what stands between them and behind the last one. A part reads the blanks around itself, lest those of an empty list be taken for one.
func (r *reader) parts(end string, part func()) {
	r.blanks()
	if r.took(end) {
		return
	}
	for part(); !r.took(end); part() {
		r.must(",")
	}
}

// number: what was read is written again, so that only a number as it is written is one: no zero ahead, no -0.
func (r *reader) number() int64 {
	digits := r.take(len(r.rest) - len(strings.TrimLeft(r.rest, "-0123456789")))
	n, err := strconv.ParseInt(digits, 10, 64)
	if err != nil || !mayNum(n) || number(n) != digits {
		panic(malformed{})
	}
	return n
}

// text: the text up to the mark that ends it.
func (r *reader) text() string {
	var out strings.Builder
	for !r.took(`"`) {
		out.WriteRune(r.sign())
	}
	return out.String()
}

func (r *reader) sign() rune {
	if r.took(`\`) {
		return r.escape()
	}
	sign, size := utf8.DecodeRuneInString(r.rest)
	if sign < ' ' || sign == utf8.RuneError && size <= 1 { // the sign of that name may stand in a text, and has 3 bytes
		panic(malformed{})
	}
	r.take(size)
	return sign
}

// escape: the sign for which what stands behind a \ is written.
func (r *reader) escape() rune {
	switch letter := r.take(1); letter {
	case `"`, `\`, "/":
		return rune(letter[0])
	case "b":
		return '\b'
	case "f":
		return '\f'
	case "n":
		return '\n'
	case "r":
		return '\r'
	case "t":
		return '\t'
	case "u":
		return r.coded()
	}
	panic(malformed{})
}

const (
	firstHalves  = 0xD800 // up to DBFF: first halves of runes beyond FFFF
	secondHalves = 0xDC00 // up to DFFF
	noHalves     = 0xE000
	beyond       = 0x10000
	halfBits     = 10
)

// coded: the rune that is told by digits, in one half or in two.
func (r *reader) coded() rune {
	one := r.half()
	if one < firstHalves || one >= noHalves {
		return one
	}
	r.must(`\u`)
	two := r.half()
	if one >= secondHalves || two < secondHalves || two >= noHalves {
		panic(malformed{})
	}
	return beyond + (one-firstHalves)<<halfBits + (two - secondHalves)
}

// half: the number that four digits of base sixteen tell.
func (r *reader) half() rune {
	n, err := strconv.ParseUint(r.take(4), 16, 16)
	if err != nil {
		panic(malformed{})
	}
	return rune(n)
}

// blanks: those that come are read.
func (r *reader) blanks() { r.rest = strings.TrimLeft(r.rest, "\t\n\r ") }

// took: whether these signs come; they are read.
func (r *reader) took(signs string) bool {
	rest, ok := strings.CutPrefix(r.rest, signs)
	r.rest = rest
	return ok
}

func (r *reader) must(signs string) {
	if !r.took(signs) {
		panic(malformed{})
	}
}

// take: the next n bytes.
func (r *reader) take(n int) string {
	if n > len(r.rest) {
		panic(malformed{})
	}
	out := r.rest[:n]
	r.rest = r.rest[n:]
	return out
}
