package json_test

import (
	"bytes"
	stdjson "encoding/json"
	"fmt"
	"math/big"
	"reflect"
	"regexp"
	"slices"
	"strings"
	"testing"
	"unicode/utf16"
	"unicode/utf8"
	"unsafe"

	"orlop/api"
	"orlop/json"
)

const (
	greatest = 9007199254740991
	longest  = 65536
	deepest  = 16
)

// Values are put together by these.

func null() api.Value               { return api.Value{} }
func truth(b bool) api.Value        { return api.Value{Kind: 1, Bool: b} }
func num(n int64) api.Value         { return api.Value{Kind: 2, Num: n} }
func text(s string) api.Value       { return api.Value{Kind: 3, Text: s} }
func list(l ...api.Value) api.Value { return api.Value{Kind: 4, List: l} }

// object: the map of these names and values, by turns.
func object(parts ...any) api.Value {
	v := api.Value{Kind: 5}
	for i := 0; i < len(parts); i += 2 {
		v.Map = append(v.Map, api.Member{Name: parts[i].(string), Value: parts[i+1].(api.Value)})
	}
	return v
}

// token: what a text is cut into, ahead of it blanks.
var token = regexp.MustCompile(`\A[\x09\x0a\x0d\x20]*(null|true|false|0|-?[1-9][0-9]*|"(?:[^"\\\x00-\x1f]|\\["\\/bfnrt]|\\u[0-9A-Fa-f]{4})*"|[][{}:,]|\z)`)

// frame is a list or a map that isn't closed yet.
type frame struct {
	v    api.Value
	name string // of the member whose value comes
}

// What a text goes on with.
const (
	aValue = iota
	aValueOrEnd
	aName
	aNameOrEnd
	aColon
	aCommaOrEnd
)

// valueOf: a text's value, read by tokens and a pile of frames, without any call within a call.
func valueOf(b []byte, longest int) (api.Value, api.Code) {
	if len(b) > longest {
		return api.Value{}, api.ErrLimit
	}
	var pile []*frame
	var last api.Value // the value that was ended last
	next := aValue
	for rest := b; ; {
		found := token.FindSubmatch(rest)
		tok := "?"
		if found != nil {
			tok = string(found[1])
			rest = rest[len(found[0]):]
		}
		if len(pile) == deepest && (next == aValue || next == aValueOrEnd && tok != "]") {
			return api.Value{}, api.ErrLimit
		}
		if next == aCommaOrEnd && len(pile) == 0 {
			if found == nil || tok != "" {
				return api.Value{}, api.ErrFormat
			}
			return last, api.OK
		}
		ended := false
		switch {
		case next == aNameOrEnd && tok == "}" || next == aValueOrEnd && tok == "]":
			ended = true
		case next == aCommaOrEnd:
			top := pile[len(pile)-1]
			ended = tok == string("]}"[top.v.Kind-4])
			if !ended && tok != "," {
				return api.Value{}, api.ErrFormat
			}
			next = []int{aValue, aName}[top.v.Kind-4]
		case next == aColon:
			if tok != ":" {
				return api.Value{}, api.ErrFormat
			}
			next = aValue
		case next == aName || next == aNameOrEnd:
			name, ok := plain(tok)
			top := pile[len(pile)-1]
			if !ok || slices.ContainsFunc(top.v.Map, func(m api.Member) bool { return m.Name == name }) {
				return api.Value{}, api.ErrFormat
			}
			top.name, next = name, aColon
		case tok == "[":
			pile, next = append(pile, &frame{v: api.Value{Kind: 4}}), aValueOrEnd
		case tok == "{":
			pile, next = append(pile, &frame{v: api.Value{Kind: 5}}), aNameOrEnd
		default:
			v, ok := leaf(tok)
			if !ok {
				return api.Value{}, api.ErrFormat
			}
			last, next = put(pile, v), aCommaOrEnd
		}
		if ended {
			v := pile[len(pile)-1].v
			pile = pile[:len(pile)-1]
			last, next = put(pile, v), aCommaOrEnd
		}
	}
}

// put: a value that was ended goes into the frame around it.
func put(pile []*frame, v api.Value) api.Value {
	if len(pile) > 0 {
		top := pile[len(pile)-1]
		if top.v.Kind == 4 {
			top.v.List = append(top.v.List, v)
		} else {
			top.v.Map = append(top.v.Map, api.Member{Name: top.name, Value: v})
		}
	}
	return v
}

// leaf: a token's value that has none within.
func leaf(tok string) (api.Value, bool) {
	switch tok {
	case "null":
		return null(), true
	case "true", "false":
		return truth(tok == "true"), true
	}
	if s, ok := plain(tok); ok {
		return text(s), true
	}
	n, ok := new(big.Int).SetString(tok, 10)
	if !ok || new(big.Int).Abs(n).Cmp(big.NewInt(greatest)) > 0 {
		return api.Value{}, false
	}
	return num(n.Int64()), true
}

// signs: those of a text, an escape being one; of digits that tell a rune the digits alone.
var signs = regexp.MustCompile(`(?s)\\u([0-9A-Fa-f]{4})|\\?.`)

// plain: the text of a token, which the library reads, if it is UTF-8, and no half of a rune is alone.
func plain(tok string) (string, bool) {
	if !strings.HasPrefix(tok, `"`) || !utf8.ValidString(tok) {
		return "", false
	}
	var units []uint16
	for _, unit := range signs.FindAllStringSubmatch(tok, -1) {
		var n uint16 // 0 of what is no unit, which parts the halves ahead of it from those behind it
		if unit[1] != "" {
			fmt.Sscanf(unit[1], "%x", &n)
		}
		units = append(units, n)
	}
	for i := 0; i < len(units); i++ {
		if !utf16.IsSurrogate(rune(units[i])) {
			continue
		}
		if i+1 == len(units) || utf16.DecodeRune(rune(units[i]), rune(units[i+1])) == utf8.RuneError {
			return "", false
		}
		i++
	}
	var out string
	if err := stdjson.Unmarshal([]byte(tok), &out); err != nil {
		panic(err)
	}
	return out, true
}

// escapes: bytes as they are written in a text.
var escapes = func() *strings.Replacer {
	pairs := []string{`"`, `\"`, `\`, `\\`}
	for c := range 32 {
		pairs = append(pairs, string(rune(c)), fmt.Sprintf(`\u%04x`, c))
	}
	return strings.NewReplacer(pairs...)
}()

// textOf: how a value is written; of one that may not be something that isn't read to it.
func textOf(v api.Value) string {
	switch v.Kind {
	case 0:
		return "null"
	case 1:
		return fmt.Sprint(v.Bool)
	case 2:
		return fmt.Sprint(v.Num)
	case 3:
		return `"` + escapes.Replace(v.Text) + `"`
	case 4:
		var parts []string
		for _, e := range v.List {
			parts = append(parts, textOf(e))
		}
		return "[" + strings.Join(parts, ",") + "]"
	case 5:
		var parts []string
		for _, m := range v.Map {
			parts = append(parts, `"`+escapes.Replace(m.Name)+`":`+textOf(m.Value))
		}
		return "{" + strings.Join(parts, ",") + "}"
	}
	return "?"
}

// may: whether a value may be: it is one that is read, be it from a text that is too long.
func may(v api.Value) bool {
	read, code := valueOf([]byte(textOf(v)), 1<<40)
	return code == api.OK && alike(read, v)
}

// alike: whether values are alike, a list without elements being nil in both.
func alike(a, b api.Value) bool { return reflect.DeepEqual(trimmed(a), trimmed(b)) }

// trimmed: a value in new memory, with nil for each list without elements.
func trimmed(v api.Value) api.Value {
	out := v
	out.List, out.Map = nil, nil
	for _, e := range v.List {
		out.List = append(out.List, trimmed(e))
	}
	for _, m := range v.Map {
		out.Map = append(out.Map, api.Member{Name: m.Name, Value: trimmed(m.Value)})
	}
	return out
}

// roomy: a value in new memory; behind each list there is room, full of something.
func roomy(v api.Value) api.Value {
	out := v
	out.List, out.Map = nil, nil
	for _, e := range v.List {
		out.List = append(out.List, roomy(e))
	}
	for _, m := range v.Map {
		out.Map = append(out.Map, api.Member{Name: m.Name, Value: roomy(m.Value)})
	}
	out.List = append(out.List, text("room"), num(15))[:len(v.List)]
	out.Map = append(out.Map, api.Member{Name: "room"})[:len(v.Map)]
	return out
}

// spoil: whatever is in a value's lists is written over, their spare room too.
func spoil(v api.Value) {
	for i := range v.List {
		spoil(v.List[i])
	}
	for i := range v.Map {
		spoil(v.Map[i].Value)
	}
	for i := range v.List[:cap(v.List)] {
		v.List[:cap(v.List)][i] = api.Value{Kind: 3, Text: "spoilt"}
	}
	for i := range v.Map[:cap(v.Map)] {
		v.Map[:cap(v.Map)][i] = api.Member{Name: "spoilt", Value: num(13)}
	}
}

// span is where a list lies: from a byte up to another one.
type span struct{ from, to uintptr }

// spans: where a value's lists lie, their spare room too.
func spans(v api.Value) []span {
	var out []span
	add := func(at unsafe.Pointer, n uintptr) {
		if n > 0 {
			out = append(out, span{uintptr(at), uintptr(at) + n})
		}
	}
	add(unsafe.Pointer(unsafe.SliceData(v.List)), uintptr(cap(v.List))*unsafe.Sizeof(api.Value{}))
	add(unsafe.Pointer(unsafe.SliceData(v.Map)), uintptr(cap(v.Map))*unsafe.Sizeof(api.Member{}))
	for _, e := range v.List {
		out = append(out, spans(e)...)
	}
	for _, m := range v.Map {
		out = append(out, spans(m.Value)...)
	}
	return out
}

// apart: none of these values' lists share memory, within one or among them.
func apart(t *testing.T, values ...api.Value) {
	t.Helper()
	var all []span
	for _, v := range values {
		all = append(all, spans(v)...)
	}
	slices.SortFunc(all, func(a, b span) int { return int(a.from) - int(b.from) })
	for i := 1; i < len(all); i++ {
		if all[i].from < all[i-1].to {
			t.Fatalf("two lists share memory: of %d lists one lies at %v, one at %v", len(all), all[i-1], all[i])
		}
	}
}

// parse: what Parse tells of a text, which is handed in amid other bytes that may not be changed, and is written over behind the call.
func parse(t *testing.T, b []byte) (api.Value, api.Code) {
	t.Helper()
	whole := append(append([]byte(`["`), b...), `",1]}`...)
	kept := bytes.Clone(whole)
	v, code := json.Parse(whole[2 : 2+len(b)])
	if !bytes.Equal(whole, kept) {
		t.Fatalf("Parse(%s): the bytes, or those beside them, were changed", short(b))
	}
	for i := range whole {
		whole[i] ^= 0x55
	}
	return v, code
}

// reads: Parse of a text tells this value, again and again, in new memory; it may be, and is written as the reference does it.
func reads(t *testing.T, b string, want api.Value) {
	t.Helper()
	v, code := parse(t, []byte(b))
	if code != api.OK || !alike(v, want) {
		t.Fatalf("Parse(%s): %s, code %d, not %s", short(b), short(fmt.Sprintf("%#v", v)), code, short(fmt.Sprintf("%#v", want)))
	}
	if !json.May(v) || json.Write(v) != textOf(want) {
		t.Fatalf("%s is read, and may be: %v, is written: %s", short(b), json.May(v), short(json.Write(v)))
	}
	again, _ := parse(t, []byte(b))
	apart(t, v, again)
	spoil(v)
	if !alike(again, want) {
		t.Fatalf("Parse(%s) changed, as another answer did", short(b))
	}
	if third, code := parse(t, []byte(b)); code != api.OK || !alike(third, want) {
		t.Fatalf("Parse(%s) isn't what it was", short(b))
	}
}

// refuses: Parse of a text tells this code and no value, again and again.
func refuses(t *testing.T, b string, want api.Code) {
	t.Helper()
	for range 2 {
		if v, code := parse(t, []byte(b)); code != want || !reflect.DeepEqual(trimmed(v), api.Value{}) {
			t.Fatalf("Parse(%s): %s, code %d, not %d", short(b), short(fmt.Sprintf("%#v", v)), code, want)
		}
	}
}

// judged: Parse of a text is as it is read here; its code. What is read the library reads too, to what is alike.
func judged(t *testing.T, b string) api.Code {
	t.Helper()
	want, code := valueOf([]byte(b), longest)
	if code != api.OK {
		refuses(t, b, code)
		return code
	}
	reads(t, b, want)
	var one, two any
	for s, to := range map[string]*any{b: &one, textOf(want): &two} {
		d := stdjson.NewDecoder(strings.NewReader(s))
		d.UseNumber()
		if err := d.Decode(to); err != nil {
			t.Fatalf("the library can't read %s: %v", short(s), err)
		}
	}
	if textOf(want) == b {
		two = one
	}
	if !reflect.DeepEqual(one, two) {
		t.Fatalf("%s is another value than %s, as the library reads them", short(b), short(textOf(want)))
	}
	return code
}

// told: May and Write of a value are as they are reckoned here, and the value isn't changed; whether it may be.
func told(t *testing.T, v api.Value) bool {
	t.Helper()
	given, may := roomy(v), may(v)
	whole := trimmed(api.Value{List: given.List[:cap(given.List)], Map: given.Map[:cap(given.Map)]})
	want := ""
	if may {
		want = textOf(v)
	}
	for range 2 {
		if got := json.May(given); got != may {
			t.Fatalf("May(%s): %v", short(fmt.Sprintf("%#v", v)), got)
		}
		if got := json.Write(given); got != want {
			t.Fatalf("Write(%s): %s, not %s", short(fmt.Sprintf("%#v", v)), short(got), short(want))
		}
	}
	if !alike(given, v) || !alike(whole, api.Value{List: given.List[:cap(given.List)], Map: given.Map[:cap(given.Map)]}) {
		t.Fatalf("%s, or the room behind its lists, was changed", short(want))
	}
	return may
}

// short: a text's beginning, to be told when something is wrong.
func short[T string | []byte](b T) string { return fmt.Sprintf("%.200q", string(b)) }
