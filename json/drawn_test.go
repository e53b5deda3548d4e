package json_test

import (
	"bytes"
	"fmt"
	"math/rand"
	"slices"
	"strings"
	"testing"
	"unicode/utf8"

	"orlop/api"
	"orlop/json"
)

// drawer draws values and texts, the same each time.
type drawer struct{ *rand.Rand }

func draws(seed int64) drawer { return drawer{rand.New(rand.NewSource(seed))} }

func oneOf[T any](d drawer, list ...T) T { return list[d.Intn(len(list))] }

// sign: one of those of which texts are drawn: plain ones, those that are told by others, those at the edges of UTF-8.
func (d drawer) sign() string {
	switch d.Intn(6) {
	case 0:
		return string(rune(d.Intn(0x20)))
	case 1:
		return oneOf(d, `"`, `\`, "/", "\x7f", "\u0080", "\u07ff", "\u0800", "\ud7ff", "\ue000", "\ufffd", "\uffff", "\U00010000", "\U0010ffff", "\ufeff", "\u2028")
	case 2:
		if r := rune(d.Intn(0x110000)); utf8.ValidRune(r) {
			return string(r)
		}
	}
	return string(rune('a' + d.Intn(3)))
}

func (d drawer) text() string {
	var out strings.Builder
	for range d.Intn(1 + d.Intn(8)) {
		out.WriteString(d.sign())
	}
	return out.String()
}

func (d drawer) number() int64 {
	n := d.Int63n(1<<53) >> d.Intn(54)
	if d.Intn(8) == 0 {
		n = greatest - int64(d.Intn(3))
	}
	return oneOf(d, n, -n)
}

// value: one that may be, no deeper than so much.
func (d drawer) value(depth int) api.Value {
	kind := d.Intn(6)
	if depth == 1 && kind > 3 {
		kind = d.Intn(4)
	}
	v := api.Value{Kind: kind}
	switch kind {
	case 1:
		v.Bool = d.Intn(2) == 0
	case 2:
		v.Num = d.number()
	case 3:
		v.Text = d.text()
	case 4:
		for range d.Intn(5) {
			v.List = append(v.List, d.value(depth-1))
		}
	case 5:
		for range d.Intn(5) {
			name := d.text()
			if !slices.ContainsFunc(v.Map, func(m api.Member) bool { return m.Name == name }) {
				v.Map = append(v.Map, api.Member{Name: name, Value: d.value(depth - 1)})
			}
		}
	}
	return v
}

// deep: a value within some others.
func (d drawer) deep() api.Value {
	n := d.Intn(13)
	return nested(oneOf(d, turns...), n, d.value(1+d.Intn(deepest-n)))
}

// loose: a text that tells a value in another way than it is written: with blanks, and signs by others.
func (d drawer) loose(v api.Value) string {
	blank := func() string {
		if d.Intn(3) > 0 {
			return ""
		}
		return strings.Repeat(oneOf(d, blanks...), d.Intn(3))
	}
	var parts []string
	switch v.Kind {
	case 3:
		return blank() + d.looseText(v.Text) + blank()
	case 4:
		for _, e := range v.List {
			parts = append(parts, d.loose(e))
		}
		return blank() + "[" + blank() + strings.Join(parts, ",") + "]" + blank()
	case 5:
		for _, m := range v.Map {
			parts = append(parts, blank()+d.looseText(m.Name)+blank()+":"+d.loose(m.Value))
		}
		return blank() + "{" + blank() + strings.Join(parts, ",") + "}" + blank()
	}
	return blank() + textOf(v) + blank()
}

func (d drawer) looseText(s string) string {
	var out strings.Builder
	for _, r := range s {
		short := map[rune]string{'"': `\"`, '\\': `\\`, '/': `\/`, '\b': `\b`, '\f': `\f`, '\n': `\n`, '\r': `\r`, '\t': `\t`}[r]
		form := oneOf(d, `\u%04x`, `\u%04X`)
		switch {
		case short != "" && d.Intn(2) == 0:
			out.WriteString(short)
		case r < 0x10000 && (r < 0x20 || r == '"' || r == '\\' || d.Intn(4) == 0):
			fmt.Fprintf(&out, form, r)
		case r >= 0x10000 && d.Intn(2) == 0:
			fmt.Fprintf(&out, form+form, 0xd800+(r-0x10000)>>10, 0xdc00+(r-0x10000)&0x3ff)
		default:
			out.WriteRune(r)
		}
	}
	return `"` + out.String() + `"`
}

// pieces are what texts are drawn of, and what is put into others.
var pieces = []string{"[", "]", "{", "}", ",", ":", `"`, `"a"`, `"b"`, `"a":`, `"b":1,`, "1", "0", "-", "12", "null", "true", "false", " ", "\n", "[]", "{}", "[[", "]]", `\`, `\u`, `\u0061`, `\ud83d`, `\ude00`, "é", "\xff", "\x00", "e", ".", "x", "9007199254740991", "9007199254740992"}

// turned: a text with one change.
func (d drawer) turned(b string) string {
	at := d.Intn(len(b) + 1)
	end := min(len(b), at+1+d.Intn(1+d.Intn(6)))
	switch d.Intn(5) {
	case 0:
		return b[:at] + b[end:]
	case 1:
		return b[:at] + oneOf(d, pieces...) + b[at:]
	case 2:
		return b[:at] + oneOf(d, pieces...) + b[end:]
	case 3:
		from := d.Intn(len(b) + 1)
		return b[:at] + b[from:min(len(b), from+d.Intn(8))] + b[at:]
	}
	changed := []byte(b)
	if at < len(b) {
		changed[at] = byte(d.Intn(256))
	}
	return string(changed)
}

// odd: a value with one change, which may make it one that may not be.
func (d drawer) odd(v api.Value) api.Value {
	v = trimmed(v)
	at := &v
	for d.Intn(4) > 0 && len(at.List)+len(at.Map) > 0 {
		if len(at.List) > 0 {
			at = &at.List[d.Intn(len(at.List))]
		} else {
			at = &at.Map[d.Intn(len(at.Map))].Value
		}
	}
	switch d.Intn(7) {
	case 0:
		at.Kind = d.Intn(9) - 1
	case 1:
		at.Bool = !at.Bool
	case 2:
		at.Num = oneOf(d, 0, 1, -1, greatest, greatest+1, -greatest, -greatest-1, d.Int63())
	case 3:
		at.Text += oneOf(d, "x", "\xff", "\u00e9", "\x00", "")
	case 4:
		at.List = append(at.List, d.value(2))
	case 5:
		at.Map = append(at.Map, api.Member{Name: oneOf(d, "a", "", "b", "\xff"), Value: d.value(2)})
	case 6:
		*at = list(object("a", list(*at)))
	}
	return v
}

// P15.3: what is written is read to the same value; what is read may be, and written and read it is as it was.
func TestWhatFollows(t *testing.T) {
	d := draws(1)
	for range 4000 {
		v := d.deep()
		b := json.Write(roomy(v))
		if b != textOf(v) {
			t.Fatalf("Write: %q, not %q", b, textOf(v))
		}
		if len(b) > longest {
			continue
		}
		read, code := parse(t, []byte(b))
		if code != api.OK || !json.Same(read, v) || !alike(read, v) || !json.May(read) || json.Write(read) != b {
			t.Fatalf("%q is read as %#v, code %d", b, read, code)
		}
		loose := d.loose(v)
		read, code = parse(t, []byte(loose))
		if code != api.OK || !json.Same(read, v) || !alike(read, v) || !json.May(read) || json.Write(read) != b {
			t.Fatalf("%q is read as %#v, code %d, not as %q", loose, read, code, b)
		}
		again, code := parse(t, []byte(json.Write(read)))
		if code != api.OK || !json.Same(read, again) {
			t.Fatalf("%q, read and written, is read as %#v", b, again)
		}
	}
}

// P15.3: values that may be, but whose text is too long, are written, and aren't read.
func TestWrittenTooLong(t *testing.T) {
	for _, n := range []int{longest - 2, longest - 1, longest, longest + 1, 3 * longest} {
		v := text(strings.Repeat("a", n))
		b := json.Write(v)
		if !json.May(v) || len(b) != n+2 {
			t.Fatalf("a text of %d bytes is written with %d", n, len(b))
		}
		read, code := parse(t, []byte(b))
		if code != codeOf(n+2 <= longest) || code == api.OK && !json.Same(read, v) {
			t.Errorf("a text of %d bytes is read with code %d", n, code)
		}
	}
	v := text(strings.Repeat("\x01", longest))
	if b := json.Write(v); len(b) != 6*longest+2 || b != textOf(v) {
		t.Error("a text of many bytes that are told by others")
	}
}

func codeOf(fits bool) api.Code {
	if fits {
		return api.OK
	}
	return api.ErrLimit
}

// P15.1: drawn texts: of pieces, of bytes, and right ones with some changes.
func TestDrawnTexts(t *testing.T) {
	d := draws(2)
	codes := map[api.Code]int{}
	for i := range 60000 {
		var b string
		switch i % 4 {
		case 0:
			for range d.Intn(12) {
				b += oneOf(d, pieces...)
			}
		case 1:
			row := make([]byte, d.Intn(8))
			d.Read(row)
			b = oneOf(d, "", `"`, "[", `{"`) + string(row) + oneOf(d, "", `"`, "]", `":1}`)
		default:
			b = textOf(d.deep())
			if len(b) > 2000 {
				continue
			}
			if i%8 == 3 {
				b = opened(oneOf(d, turns...), d.Intn(18), "") + b
			}
			for range d.Intn(4) {
				b = d.turned(b)
			}
		}
		codes[judged(t, b)]++
	}
	if codes[api.OK] < 5000 || codes[api.ErrFormat] < 8000 || codes[api.ErrLimit] < 800 {
		t.Errorf("codes: %v", codes)
	}
}

// P15.1: all texts of up to six of few pieces.
func TestAllTextsOfFewPieces(t *testing.T) {
	for _, few := range [][]string{{"[", "]", ",", "1", " "}, {"{", "}", `"a"`, ":", ","}, {`"`, `\`, "u", "0061", "d83d"}, {"-", "0", "1", ",", "["}} {
		texts := []string{""}
		for range 6 {
			var next []string
			for _, b := range texts {
				for _, p := range few {
					next = append(next, b+p)
				}
			}
			for _, b := range next {
				want, wantCode := valueOf([]byte(b), longest)
				if v, code := json.Parse([]byte(b)); code != wantCode || !alike(v, want) {
					t.Fatalf("Parse(%q): %#v, code %d, not %#v, code %d", b, v, code, want, wantCode)
				}
			}
			texts = next
		}
	}
}

// P15.2: drawn values, and such with some changes, of which many may not be; Get of drawn names.
func TestDrawnValues(t *testing.T) {
	d := draws(3)
	may, alikes := 0, 0
	for range 8000 {
		v := d.value(1 + d.Intn(5))
		if !told(t, v) {
			t.Fatalf("%#v may not be", v)
		}
		changed := v
		for range d.Intn(4) {
			changed = d.odd(changed)
		}
		if told(t, changed) {
			may++
		}
		if alike(v, changed) {
			alikes++
		}
		same(t, v, changed, alike(v, changed))
		same(t, v, trimmed(v), true)
		for _, name := range []string{"", "a", "b", "\xff", d.text()} {
			want, there := null(), false
			for _, m := range slices.Backward(changed.Map) {
				if m.Name == name && changed.Kind == 5 {
					want, there = m.Value, true
				}
			}
			got(t, changed, name, want, there)
		}
	}
	if may < 2000 || may > 6500 || alikes < 1000 || alikes > 6500 {
		t.Errorf("%d of the drawn values may be, %d are alike", may, alikes)
	}
}

// What was asked before doesn't count, nor what was wrong with it; what is handed in is asked for as it is then.
func TestCallsHangOnTheirArgumentsAlone(t *testing.T) {
	d := draws(4)
	b := []byte(`{"a":[1,2,{"b":"cd"}],"e":null,"f":true}`)
	kept := bytes.Clone(b)
	v := object("a", list(num(1), num(2), object("b", text("cd"))), "e", null(), "f", truth(true))
	for range 4000 {
		switch d.Intn(5) {
		case 0:
			at := d.Intn(len(b))
			b[at] = byte(d.Intn(128))
			changed := string(b)
			judged(t, changed)
			read, code := json.Parse(b)
			copy(b, kept)
			if again, code := json.Parse(b); code != api.OK || !alike(again, v) {
				t.Fatalf("Parse of what was changed, and is again what it was: %#v, code %d", again, code)
			}
			if want, wantCode := valueOf([]byte(changed), longest); code != wantCode || !alike(read, want) {
				t.Fatalf("what was read of %q changed with the bytes: %#v, code %d", changed, read, code)
			}
		case 1:
			refuses(t, strings.Repeat(oneOf(d, "[", `{"a":`), 17+d.Intn(50)), api.ErrLimit)
		case 2:
			refuses(t, oneOf(d, `{"a":1,"a":2}`, `["a`, "[1,", `"\ud800"`, ""), api.ErrFormat)
		case 3:
			changed := d.odd(v)
			want := ""
			if may(changed) {
				want = textOf(changed)
			}
			if json.Write(changed) != want || json.Write(v) != string(kept) || json.Same(v, changed) != alike(v, changed) {
				t.Fatalf("%#v: %q", changed, json.Write(changed))
			}
		case 4:
			got(t, v, "a", v.Map[0].Value, true)
			got(t, v, "b", null(), false)
		}
	}
}

// A value that is handed in, and changed behind the call, is told as it is then.
func TestValuesChangedBehindTheCall(t *testing.T) {
	v := object("a", list(num(1)), "b", text("x"))
	first, _ := json.Get(v, "a")
	if b := json.Write(v); b != `{"a":[1],"b":"x"}` || !json.May(v) {
		t.Errorf("%q", b)
	}
	v.Map[0].Value.List[0].Num = 2
	v.Map[1].Name = "c"
	if b := json.Write(v); b != `{"a":[2],"c":"x"}` || !json.May(v) {
		t.Errorf("%q", b)
	}
	second, _ := json.Get(v, "a")
	if !json.Same(first, list(num(1))) || !json.Same(second, list(num(2))) || json.Same(first, second) {
		t.Errorf("Get: %#v, %#v", first, second)
	}
	v.Map[1].Name = "a"
	if json.May(v) || json.Write(v) != "" {
		t.Error("a map may be in which a name came to be there twice")
	}
	v.Map[1].Name = "d"
	if !json.May(v) || json.Write(v) != `{"a":[2],"d":"x"}` {
		t.Error("a map may not be in which a name was there twice")
	}
}
