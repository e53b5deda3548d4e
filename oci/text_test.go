package oci_test

import (
	"fmt"
	"regexp"
	"slices"
	"strings"
	"testing"

	"orlop/api"
	"orlop/json"
	"orlop/oci"
)

// blanks: each alone, and some.
var blanks = []string{" ", "\t", "\n", "\r", " \t\r\n ", "\n\n"}

// orders: all orders of so many things.
func orders(n int) [][]int {
	if n == 0 {
		return [][]int{{}}
	}
	var out [][]int
	for _, shorter := range orders(n - 1) {
		for at := range n {
			out = append(out, append(append(append([]int{}, shorter[:at]...), n-1), shorter[at:]...))
		}
	}
	return out
}

// inOrder: a map of members that are written, in this order.
func inOrder(order []int, members []string) string {
	var out []string
	for _, i := range order {
		out = append(out, members[i])
	}
	return "{" + strings.Join(out, ",") + "}"
}

// P16.2: the members of each map in every order; the notes in theirs alone.
func TestMembersInEveryOrder(t *testing.T) {
	m := some()
	d := m.Parts[0]
	m.Parts = []api.Descriptor{d, part("x", 4, 4)}
	inPart := []string{`"mediaType":"layer"`, fmt.Sprintf(`"digest":"sha256:%x"`, d.Digest), `"size":5`, annotations(d.Notes)[1:]}
	inOther := []string{`"mediaType":"x"`, fmt.Sprintf(`"digest":"sha256:%x"`, m.Parts[1].Digest), `"size":4`}
	for _, a := range orders(4) {
		for _, b := range orders(3) {
			layers := `"layers":[` + inOrder(a, inPart) + "," + inOrder(b, inOther) + "]"
			for _, c := range orders(3) {
				reads(t, inOrder(c, []string{`"schemaVersion":2`, layers, annotations(m.Notes)[1:]}), m)
			}
		}
	}
	for _, order := range orders(2) {
		reads(t, inOrder(order, []string{`"schemaVersion":2`, `"layers":[]`}), api.Manifest{})
	}
	written := []string{`"epoch":"1"`, `"keys":"AQ=="`, `"name":"x"`}
	for _, order := range orders(3) {
		b := `{"schemaVersion":2,"layers":[],"annotations":` + inOrder(order, written) + "}"
		in := fmt.Sprintf(`{"schemaVersion":2,"layers":[{"mediaType":"","digest":"sha256:%x","size":0,"annotations":%s}]}`, digest(2), inOrder(order, written))
		if fmt.Sprint(order) == "[0 1 2]" {
			reads(t, b, api.Manifest{Notes: m.Notes})
			reads(t, in, api.Manifest{Parts: []api.Descriptor{part("", 2, 0, m.Notes...)}})
			continue
		}
		refuses(t, b, api.ErrFormat)
		refuses(t, in, api.ErrFormat)
	}
}

// token: what a manifest's JSON is cut into.
var token = regexp.MustCompile(`"(?:[^"\\]|\\.)*"|[0-9]+|[][{}:,]`)

// P16.2: blanks at every place where they may stand, and at all of them at once.
func TestBlanks(t *testing.T) {
	for _, m := range []api.Manifest{{}, some(), {Notes: notes("", "")}} {
		tokens := token.FindAllString(textOf(m), -1)
		if strings.Join(tokens, "") != textOf(m) {
			t.Fatal("the tokens aren't the text's")
		}
		for _, blank := range blanks {
			for at := range len(tokens) + 1 {
				reads(t, strings.Join(tokens[:at], "")+blank+strings.Join(tokens[at:], ""), m)
			}
			reads(t, blank+strings.Join(tokens, blank)+blank, m)
		}
		for _, other := range []string{"\v", "\f", "\x00", "\u00a0", "\ufeff", "\u2028", "x", ",", "0"} {
			for at := range len(tokens) + 1 {
				judged(t, strings.Join(tokens[:at], "")+other+strings.Join(tokens[at:], ""))
			}
		}
	}
}

// P16.2: blanks within a text belong to it.
func TestBlanksWithinTexts(t *testing.T) {
	right := textOf(some())
	for _, was := range []string{"schemaVersion", "layers", "mediaType", "digest", "size", "annotations", "sha256", "sha256:"} {
		refuses(t, strings.Replace(right, was, was+" ", 1), api.ErrFormat)
		refuses(t, strings.Replace(right, was, " "+was, 1), api.ErrFormat)
	}
	m := some()
	m.Parts[0].Media, m.Notes[0].Name, m.Notes[0].Text = " layer ", " epoch", "1 "
	reads(t, strings.Replace(strings.Replace(right, `"layer"`, `" layer "`, 1), `"epoch":"1"`, `" epoch":"1 "`, 1), m)
}

// sign: of a text that is written, an escape being one.
var sign = regexp.MustCompile(`(?s)\\u[0-9a-f]{4}|\\.|.`)

// coded: a token; of a text the signs that are picked are told by digits.
func coded(tok, form string, picked func(i int) bool) string {
	if tok[0] != '"' {
		return tok
	}
	out := `"`
	for i, s := range sign.FindAllString(tok[1:len(tok)-1], -1) {
		r := []rune(s)
		if !picked(i) || r[0] == '\\' {
			out += s
		} else if r[0] < 0x10000 {
			out += fmt.Sprintf(form, r[0])
		} else {
			out += fmt.Sprintf(form+form, 0xd800+(r[0]-0x10000)>>10, 0xdc00+(r[0]-0x10000)&0x3ff)
		}
	}
	return out + `"`
}

// P16.2: escapes in each text: names of members, digests, Media, names and texts of notes: all its signs, or one.
func TestEscapes(t *testing.T) {
	m := some()
	tokens := token.FindAllString(textOf(m), -1)
	for _, form := range []string{`\u%04x`, `\u%04X`} {
		all := ""
		for at, tok := range tokens {
			ahead, behind := strings.Join(tokens[:at], ""), strings.Join(tokens[at+1:], "")
			reads(t, ahead+coded(tok, form, func(int) bool { return true })+behind, m)
			for i := range sign.FindAllString(tok, -1) {
				reads(t, ahead+coded(tok, form, func(j int) bool { return j == i })+behind, m)
			}
			all += coded(tok, form, func(int) bool { return true })
		}
		reads(t, all, m)
	}
	reads(t, strings.ReplaceAll(strings.ReplaceAll(textOf(m), `\u000a`, `\n`), "/", `\/`), m)
	m.Notes = notes("\b\f\n\r\t", "\"\\/\b\f\n\r\t")
	reads(t, fmt.Sprintf(`{"schemaVersion":2,"layers":[],"annotations":{"\b\f\n\r\t":"\"\\\/\b\f\n\r\t"}}`), api.Manifest{Notes: m.Notes})
}

// P16.2: it is judged by what a text tells, not by how: names that rise told by digits, and one name told in two ways.
func TestEscapesInTheOrderOfNotes(t *testing.T) {
	form := `{"schemaVersion":2,"layers":[],"annotations":{%s:"1",%s:"2"}}`
	reads(t, fmt.Sprintf(form, `"a"`, `"\u0062"`), api.Manifest{Notes: notes("a", "1", "b", "2")})
	reads(t, fmt.Sprintf(form, `"\u0061"`, `"b"`), api.Manifest{Notes: notes("a", "1", "b", "2")})
	reads(t, fmt.Sprintf(form, `"\u0061"`, `"\u0061\u0000"`), api.Manifest{Notes: notes("a", "1", "a\x00", "2")})
	reads(t, fmt.Sprintf(form, `"\uffff"`, `"\ud800\udc00"`), api.Manifest{Notes: notes("\uffff", "1", "\U00010000", "2")})
	for _, two := range [][2]string{{`"\u0062"`, `"a"`}, {`"b"`, `"\u0061"`}, {`"a"`, `"\u0061"`}, {`"\u0061"`, `"a"`}, {`"\/"`, `"/"`}, {`"\ud800\udc00"`, `"\uffff"`}, {`"a"`, `""`}, {`"a"`, `"\ud800"`}} {
		refuses(t, fmt.Sprintf(form, two[0], two[1]), api.ErrFormat)
	}
}

// A text that is told by short escapes may be one whose JSON, with long ones, has more bytes than a text may have: it is read all the same.
func TestTextsWhoseJSONIsLonger(t *testing.T) {
	m := api.Manifest{Notes: notes("a", strings.Repeat("\n", longest))}
	b := `{"schemaVersion":2,"layers":[],"annotations":{"a":"` + strings.Repeat(`\n`, longest) + `"}}`
	is(t, m)
	reads(t, b, m)
	if text, code := oci.JSON(m); text != "" || code != api.ErrLimit {
		t.Errorf("JSON: %d bytes, code %d", len(text), code)
	}
}

// value: that of a manifest, as layer 15 reads its JSON.
func value(t *testing.T, m api.Manifest) api.Value {
	t.Helper()
	v, code := json.Parse([]byte(textOf(m)))
	if code != api.OK {
		t.Fatalf("code %d", code)
	}
	return v
}

// kinds: a value of each kind, with something in it and with nothing.
func kinds() []string {
	return []string{"null", "true", "false", "0", "1", "2", "-2", "3", `""`, `"2"`, `"x"`, `"sha256:"`, "[]", "[2]", `["x"]`, "{}", `{"a":"b"}`, `{"a":1}`, "[[]]", "[{}]", "[null]"}
}

// within: each value within one, and itself, handed on between what is written ahead of it and behind it.
func within(b string, visit func(ahead, was, behind string)) {
	tokens := token.FindAllString(b, -1)
	for from, tok := range tokens {
		isName := from+1 < len(tokens) && tokens[from+1] == ":"
		if isName || strings.Contains("]}:,", tok) {
			continue
		}
		depth, to := 0, from
		for ; to == from || depth > 0; to++ {
			depth += strings.Count("[{", tokens[to]) - strings.Count("]}", tokens[to])
		}
		visit(strings.Join(tokens[:from], ""), strings.Join(tokens[from:to], ""), strings.Join(tokens[to:], ""))
	}
}

// P16.2: each value within a manifest's, and itself, in turn of another kind, or another one of the same kind.
func TestOtherKinds(t *testing.T) {
	seen, right := 0, 0
	for _, m := range []api.Manifest{{}, some(), {Notes: notes("a", "")}, {Parts: []api.Descriptor{part("x", 1, 2)}}} {
		within(textOf(m), func(ahead, was, behind string) {
			seen++
			for _, other := range kinds() {
				if judged(t, ahead+other+behind) == api.OK {
					right++
				}
			}
			if was[0] == '"' || was[0] >= '0' && was[0] <= '9' {
				for _, other := range []string{"null", "true", "[]", "{}", "[" + was + "]"} {
					refuses(t, ahead+other+behind, api.ErrFormat)
				}
			}
		})
	}
	if seen < 30 || right < 20 || right > 300 {
		t.Errorf("of %d values %d other ones are right", seen, right)
	}
	for _, b := range append(kinds(), `"schemaVersion"`, `[2,[]]`, `[{"schemaVersion":2,"layers":[]}]`, `{"":{"schemaVersion":2,"layers":[]}}`) {
		refuses(t, b, api.ErrFormat)
	}
}

// P16.2: members: one missing, one too many, one with another name, two with each other's values, in each map.
func TestOtherMembers(t *testing.T) {
	m := api.Manifest{Parts: []api.Descriptor{part("x", 1, 2, notes("a", "b")...)}, Notes: notes("c", "d")}
	names := []string{"schemaVersion", "layers", "annotations", "mediaType", "digest", "size", "", "x", "SchemaVersion", "schemaversion", "Layers", "layer", "layers\x00", "mediatype", "MediaType", "Digest", "digests", "Size", "Annotations", "annotation", "config", "urls", "data", "platform", "artifactType"}
	for _, at := range []func(v *api.Value) *[]api.Member{
		func(v *api.Value) *[]api.Member { return &v.Map },
		func(v *api.Value) *[]api.Member { return &v.Map[1].Value.List[0].Map },
	} {
		changed := func(want api.Code, change func(members *[]api.Member)) {
			t.Helper()
			v := value(t, m)
			change(at(&v))
			if code := judged(t, written(v)); code != want {
				t.Fatalf("%s: code %d", written(v), code)
			}
		}
		changed(api.OK, func(*[]api.Member) {})
		changed(api.ErrFormat, func(members *[]api.Member) { *members = nil })
		right := value(t, m)
		for i, was := range *at(&right) {
			missing := api.ErrFormat
			if was.Name == "annotations" {
				missing = api.OK
			}
			changed(missing, func(members *[]api.Member) { *members = slices.Delete(*members, i, i+1) })
			changed(api.ErrFormat, func(members *[]api.Member) { *members = slices.Insert(*members, i, was) })
			for j, other := range *at(&right) {
				if i != j {
					changed(api.ErrFormat, func(members *[]api.Member) { (*members)[i].Name, (*members)[j].Name = other.Name, was.Name })
					if was.Name != "mediaType" || other.Value.Kind != api.Text { // any text may be one's Media
						changed(api.ErrFormat, func(members *[]api.Member) { (*members)[i].Value = other.Value })
					}
				}
			}
			for _, name := range names {
				if name == was.Name {
					continue
				}
				changed(api.ErrFormat, func(members *[]api.Member) { (*members)[i].Name = name })
				for _, v := range []api.Value{{}, was.Value, {Kind: api.Text}, {Kind: api.Map}, {Kind: api.List}} {
					changed(api.ErrFormat, func(members *[]api.Member) {
						*members = slices.Insert(*members, i, api.Member{Name: name, Value: v})
					})
				}
			}
		}
	}
}

// written: a value, two members of one name too, which layer 15 doesn't write.
func written(v api.Value) string {
	var parts []string
	switch v.Kind {
	case api.List:
		for _, e := range v.List {
			parts = append(parts, written(e))
		}
		return "[" + strings.Join(parts, ",") + "]"
	case api.Map:
		for _, m := range v.Map {
			parts = append(parts, quoted(m.Name)+":"+written(m.Value))
		}
		return "{" + strings.Join(parts, ",") + "}"
	}
	return json.Write(v)
}

func judgedOK(t *testing.T, b string) {
	t.Helper()
	if code := judged(t, b); code != api.OK {
		t.Fatalf("%.300q: code %d", b, code)
	}
}

// P16.2: no notes are no annotations; notes are texts, two of one name there can't be.
func TestAnnotations(t *testing.T) {
	for _, form := range []string{
		`{"schemaVersion":2,"layers":[],"annotations":%s}`, `{"annotations":%s,"layers":[],"schemaVersion":2}`,
		fmt.Sprintf(`{"schemaVersion":2,"layers":[{"mediaType":"x","digest":"sha256:%x","size":2,"annotations":%%s}]}`, digest(1)),
		fmt.Sprintf(`{"schemaVersion":2,"layers":[{"annotations":%%s,"mediaType":"x","digest":"sha256:%x","size":2}],"annotations":{"a":"b"}}`, digest(1)),
	} {
		for _, right := range []string{`{"a":"b"}`, `{"":""}`, `{"annotations":"","layers":"","schemaVersion":"2"}`, `{"digest":"sha256:","mediaType":"x","size":"2"}`} {
			judgedOK(t, fmt.Sprintf(form, right))
		}
		for _, bad := range []string{"{}", "{ }", "[]", "null", `""`, "0", "false", `["a","b"]`, `[{"a":"b"}]`, `[{"Name":"a","Text":"b"}]`, `{"a":null}`, `{"a":1}`, `{"a":true}`, `{"a":["b"]}`, `{"a":{"b":"c"}}`, `{"a":{}}`, `{"a":"b","c":null}`, `{"a":"b","a":"b"}`, `{"a":"b","a":"c"}`, `{"a":"b","c":"d","a":"b"}`, `{"a":"b","\u0061":"b"}`, `{"b":"","a":""}`} {
			refuses(t, fmt.Sprintf(form, bad), api.ErrFormat)
		}
	}
	refuses(t, `{"schemaVersion":2,"layers":[],"annotations":{"a":"b"},"annotations":{"a":"b"}}`, api.ErrFormat)
	for _, n := range []int{1, 15, 16} {
		for _, m := range withNotes(manyNotes(n)) {
			judgedOK(t, textOf(m))
		}
	}
	for _, n := range []int{17, 18, 100} {
		for _, m := range withNotes(manyNotes(n)) {
			refuses(t, textOf(m), api.ErrFormat)
		}
	}
}

// P16.2: what stands in the place of a member's value: versions, digests, sizes.
func TestOtherVersionsDigestsAndSizes(t *testing.T) {
	d := digest(1)
	hex := fmt.Sprintf("%x", d)
	form := `{"schemaVersion":%s,"layers":[{"mediaType":"x","digest":%s,"size":%s}]}`
	right := `"sha256:` + hex + `"`
	reads(t, fmt.Sprintf(form, "2", right, "5"), api.Manifest{Parts: []api.Descriptor{part("x", 1, 5)}})
	for _, version := range []string{"0", "1", "3", "-2", "20", "22", "9007199254740991", "4294967298", "2.0", "2e0", "02", `"2"`, "null", "true", "[2]", `{"2":2}`} {
		refuses(t, fmt.Sprintf(form, version, right, "5"), api.ErrFormat)
	}
	for _, bad := range []string{"", "sha256", "sha256:", hex, ":" + hex, "256:" + hex, "sha256" + hex, "sha256::" + hex, "sha256:sha256:" + hex, "SHA256:" + hex, "Sha256:" + hex, "sha512:" + hex, "sha257:" + hex, "sha-256:" + hex, "sha256:" + hex[:62], "sha256:" + hex[:63], "sha256:" + hex[1:], "sha256:" + hex + "0", "sha256:" + hex + "00", "sha256:" + hex + hex, "sha256:" + hex[:1], "sha256:" + hex[:2], "sha256: " + hex, " sha256:" + hex, "sha256:" + hex + " ", "sha256:" + hex[:63] + " ", "sha256:0x" + hex[2:], "sha256:" + hex[:32] + " " + hex[33:], "sha256:" + hex[:63] + "\u00e9", "sha256:\uff10" + hex[3:], "x" + "sha256:" + hex, hex + "sha256:", "sha256/" + hex, "md5:" + hex} {
		refuses(t, fmt.Sprintf(form, "2", quoted(bad), "5"), api.ErrFormat)
	}
	if strings.ToUpper(hex) == hex {
		t.Fatal("a digest without letters")
	}
	for at := range hex {
		for c := byte(' '); c < 127; c++ {
			turned := "sha256:" + hex[:at] + string(rune(c)) + hex[at+1:]
			code := judged(t, fmt.Sprintf(form, "2", quoted(turned), "5"))
			if may := strings.ContainsRune("0123456789abcdef", rune(c)); may != (code == api.OK) || !may && code != api.ErrFormat {
				t.Fatalf("%s: code %d", turned, code)
			}
		}
	}
	refuses(t, fmt.Sprintf(form, "2", quoted("sha256:"+strings.ToUpper(hex)), "5"), api.ErrFormat)
	for _, size := range []string{"0", "1", "10", "2147483646", "2147483647"} {
		judgedOK(t, fmt.Sprintf(form, "2", right, size))
	}
	for _, size := range []string{"-1", "-5", "-0", "-2147483648", "-2147483649", "2147483648", "2147483649", "4294967295", "4294967296", "4294967301", "9007199254740991", "-9007199254740991", "9007199254740992", "18446744073709551616", "5.0", "5e0", "05", "+5", `"5"`, "null", "true", "[5]", "{}"} {
		refuses(t, fmt.Sprintf(form, "2", right, size), api.ErrFormat)
	}
}

// P16.2: parts one too many, and names, texts and Media too long.
func TestTextsBeyondTheLimits(t *testing.T) {
	for _, n := range []int{63, 64} {
		reads(t, textOf(api.Manifest{Parts: manyParts(n)}), api.Manifest{Parts: manyParts(n)})
	}
	for _, n := range []int{65, 66, 100, 300} {
		refuses(t, textOf(api.Manifest{Parts: manyParts(n)}), api.ErrFormat)
	}
	for _, n := range []int{mostParts + 1, 1000, 20000} {
		refuses(t, `{"schemaVersion":2,"layers":[`+strings.Repeat("{},", n-1)+"{}]}", api.ErrFormat)
	}
	for _, n := range []int{longest, longest + 1, longest + 2, 2 * longest} {
		for _, s := range ofLength(n) {
			for _, m := range append(append(withPart(part(s, 1, 1)), withNotes(notes(s, "x"))...), withNotes(notes("x", s))...) {
				if want := map[bool]api.Code{true: api.OK, false: api.ErrFormat}[n == longest]; judged(t, textOf(m)) != want {
					t.Fatalf("texts of %d bytes: code %d", n, judged(t, textOf(m)))
				}
			}
		}
	}
}

// P16.2: layer 15's codes: too many bytes, whatever they are, too deep, no value at all.
func TestWhatLayer15Refuses(t *testing.T) {
	right := textOf(some())
	for _, n := range []int{mostJSON - 1, mostJSON} {
		reads(t, right+strings.Repeat(" ", n-len(right)), some())
		reads(t, strings.Repeat("\n", n-len(right))+right, some())
		refuses(t, right+strings.Repeat("x", n-len(right)), api.ErrFormat)
		refuses(t, strings.Repeat(" ", n), api.ErrFormat)
	}
	for _, n := range []int{mostJSON + 1, mostJSON + 2, 2 * mostJSON, 1 << 20} {
		for _, fill := range []string{" ", "x", "\x00", "["} {
			refuses(t, right+strings.Repeat(fill, n-len(right)), api.ErrLimit)
			refuses(t, strings.Repeat(fill, n), api.ErrLimit)
		}
	}
	for _, form := range []string{"%s", `{"schemaVersion":2,"layers":%s}`, `{"schemaVersion":3,"layers":%s}`, `{"more":1,"layers":[{"size":%s`, `{"schemaVersion":2,"layers":[],"annotations":{"a":%s}}`} {
		depth := strings.Count(form, "{") + strings.Count(form, "[") - strings.Count(form, "[]")
		refuses(t, strings.Replace(form, "%s", strings.Repeat("[", 16-depth)+strings.Repeat("]", 16-depth), 1), api.ErrFormat)
		for _, n := range []int{17, 18, 100, 5000} {
			refuses(t, strings.Replace(form, "%s", strings.Repeat("[", n)+strings.Repeat("]", n), 1), api.ErrLimit)
			refuses(t, strings.Replace(form, "%s", strings.Repeat(`{"a":`, n), 1), api.ErrLimit)
		}
	}
	for _, b := range []string{"", " ", "\x00", "x", "{", "}", "[", `"`, "nul", "{]", right + "x", right + right, right + ",", "," + right, right[1:], "\ufeff" + right, "OMF1", "{}{}", `{"schemaVersion":2,"layers":[],}`, `{"schemaVersion":2,"layers":[,]}`, `{"schemaVersion":2,"schemaVersion":2,"layers":[]}`, `{"schemaVersion":2,"layers":[],"layers":[]}`, `{'schemaVersion':2,'layers':[]}`, string(rowOf(some()))} {
		refuses(t, b, api.ErrFormat)
	}
	if m, code := oci.FromJSON(nil); code != api.ErrFormat || !alike(m, api.Manifest{}) {
		t.Errorf("FromJSON of nothing: code %d", code)
	}
	for n := range right {
		refuses(t, right[:n], api.ErrFormat)
		judged(t, right[:n]+right[n+1:])
	}
}

// P16.2: each byte of a text turned: what comes of it is as it is read here.
func TestTurnedTexts(t *testing.T) {
	right := textOf(api.Manifest{Parts: []api.Descriptor{part("l\n", 1, 23, notes("a", "1", "b", "")...)}, Notes: notes("\u00e9", "t")})
	codes := map[api.Code]int{}
	for at := range right {
		for c := range 256 {
			codes[judged(t, right[:at]+string([]byte{byte(c)})+right[at+1:])]++
		}
	}
	if codes[api.OK] < 1500 || codes[api.ErrFormat] < 20000 || len(codes) != 2 {
		t.Errorf("codes: %v", codes)
	}
}
