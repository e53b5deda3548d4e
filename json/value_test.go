package json_test

import (
	"fmt"
	"reflect"
	"runtime/debug"
	"slices"
	"strings"
	"testing"

	"orlop/api"
	"orlop/json"
)

// mayBe: a value may be, and is written so; so is a list and a map with it. What is written is read to it again.
func mayBe(t *testing.T, v api.Value, b string) {
	t.Helper()
	for form, v := range map[string]api.Value{"%s": v, "[%s]": list(v), "[0,%s,%s]": list(num(0), v, v), `{"a":%s}`: object("a", v), `{"a":[{"":%s}],"b":%s}`: object("a", list(object("", v)), "b", v)} {
		want := strings.ReplaceAll(form, "%s", b)
		if got := json.Write(v); got != want || !json.May(v) {
			t.Fatalf("%#v may be: %v, is written: %s, not %s", v, json.May(v), short(got), short(want))
		}
		if !told(t, v) {
			t.Fatalf("%#v may not be, as it is reckoned here", v)
		}
		reads(t, want, v)
	}
}

// mayNot: a value may not be; nor may what it lies in, however deep.
func mayNot(t *testing.T, v api.Value) {
	t.Helper()
	within := []api.Value{v, list(v), list(num(1), v), list(v, num(1)), object("a", v), object("a", null(), "b", v), object("b", v, "a", null()), list(list(), object("a", list(object("b", v, "c", text("x"))))), nested("lm", 13, v), nested("ml", 14, v)}
	for _, v := range within {
		if json.May(v) || json.Write(v) != "" {
			t.Fatalf("%#v may be: %v, is written: %s", v, json.May(v), short(json.Write(v)))
		}
		if told(t, v) {
			t.Fatalf("%#v may be, as it is reckoned here", v)
		}
	}
}

// kinds: a value of each kind, with something in the field that it needs, and with nothing.
func kinds() []api.Value {
	return []api.Value{null(), truth(true), truth(false), num(5), num(0), text("x"), text(""), list(num(1)), list(), object("a", num(1)), object()}
}

// P15.2: each kind may be, with the field that it needs, and with no other one.
func TestFieldsThatAKindNeeds(t *testing.T) {
	written := []string{"null", "true", "false", "5", "0", `"x"`, `""`, "[1]", "[]", `{"a":1}`, "{}"}
	for i, v := range kinds() {
		mayBe(t, v, written[i])
		for field, with := range []api.Value{{}, {Kind: v.Kind, Bool: true}, {Kind: v.Kind, Num: 7}, {Kind: v.Kind, Text: "y"}, {Kind: v.Kind, List: []api.Value{null()}}, {Kind: v.Kind, Map: []api.Member{{}}}} {
			if field == 0 {
				continue
			}
			both := v
			both.Bool = v.Bool || with.Bool
			both.Num |= with.Num
			both.Text += with.Text
			both.List = append(slices.Clone(v.List), with.List...)
			both.Map = append(slices.Clone(v.Map), with.Map...)
			if field != v.Kind {
				mayNot(t, both)
				mayNot(t, with)
			} else if !told(t, both) {
				t.Errorf("%#v may not be", both)
			}
		}
	}
	for field, v := range []api.Value{{Bool: true}, {Num: -1}, {Text: "\x00"}, {List: []api.Value{{}}}, {Map: []api.Member{{}}}} {
		for kind := range 6 {
			v.Kind = kind
			if may := json.May(v); may != (kind == field+1) {
				t.Errorf("May(%#v): %v", v, may)
			}
		}
	}
}

// P15.2: there are six kinds.
func TestKindsThatThereAreNot(t *testing.T) {
	for _, kind := range []int{-1, -2, -6, 6, 7, 8, 9, 10, 100, 255, 256, 257, 261, 1 << 16, 1 << 31, 1<<32 + 1, 1 << 62, -1 << 63, 1<<63 - 1} {
		for _, v := range kinds() {
			v.Kind = kind
			mayNot(t, v)
		}
	}
}

// P15.2: numbers up to both ends.
func TestNumbersThatMayBe(t *testing.T) {
	for _, n := range []int64{0, 1, 9, 10, 99, 1 << 31, 1 << 32, 1<<53 - 2, greatest} {
		mayBe(t, num(n), fmt.Sprint(n))
		mayBe(t, num(-n), fmt.Sprint(-n))
	}
	for _, n := range []int64{greatest + 1, greatest + 2, 1<<53 + 1, 1 << 54, 1 << 62, 1<<63 - 1} {
		mayNot(t, num(n))
		mayNot(t, num(-n))
	}
	mayNot(t, num(-1<<63))
}

// P15.2: each byte of a text as it is written; texts of more than one byte a sign.
func TestTextsWritten(t *testing.T) {
	for c := range 128 {
		s := string(rune(c))
		want := s
		switch {
		case c == 0x22:
			want = `\"`
		case c == 0x5c:
			want = `\\`
		case c < 0x20:
			want = fmt.Sprintf(`\u%04x`, c)
		}
		mayBe(t, text(s), `"`+want+`"`)
		mayBe(t, text("a"+s+"\u00e9"+s+s), `"a`+want+"\u00e9"+want+want+`"`)
		mayBe(t, object(s, null(), s+s, num(1)), `{"`+want+`":null,"`+want+want+`":1}`)
	}
	for _, r := range []rune{0x80, 0x85, 0xa0, 0xe9, 0x7ff, 0x800, 0x2028, 0x2029, 0xd7ff, 0xe000, 0xfeff, 0xfffd, 0xfffe, 0xffff, 0x10000, 0x1f600, 0x10ffff} {
		s := string(r)
		mayBe(t, text(s), `"`+s+`"`)
		mayBe(t, object("a"+s+"\n", text(s+s+"/")), `{"a`+s+`\u000a":"`+s+s+`/"}`)
	}
	mayBe(t, text(`\u0041`), `"\\u0041"`)
	mayBe(t, text("<a href='x'>&amp;</a>"), `"<a href='x'>&amp;</a>"`)
	mayBe(t, text("\x00\x1f\x7f\b\f\n\r\t\v\a\x1b"), `"\u0000\u001f`+"\x7f"+`\u0008\u000c\u000a\u000d\u0009\u000b\u0007\u001b"`)
}

// P15.2: texts and names that aren't UTF-8.
func TestTextsThatMayNotBe(t *testing.T) {
	for _, bad := range []string{"\x80", "\xbf", "\xc0", "\xff", "\xfe", "\xc0\x80", "\xc1\xbf", "\xe0\x80\x80", "\xe0\x9f\xbf", "\xed\xa0\x80", "\xed\xbf\xbf", "\xf0\x80\x80\x80", "\xf0\x8f\xbf\xbf", "\xf4\x90\x80\x80", "\xf5\x80\x80\x80", "\xc3", "\xe2\x82", "\xf0\x9f\x98", "\xc3\x28", "\x80\x80", "\xed\xa0\xbd\xed\xb8\x80"} {
		for _, s := range []string{bad, "a" + bad, bad + "b", "\u00e9" + bad + "\u00e9", strings.Repeat("a", 100) + bad} {
			mayNot(t, text(s))
			mayNot(t, object(s, null()))
			mayNot(t, object("a", null(), s, null()))
			mayNot(t, object(s, null(), "a", null()))
		}
	}
}

// P15.2: no two members of one map have one name.
func TestMembersThatMayNotBe(t *testing.T) {
	for _, name := range []string{"", "a", "A", "\u00c9", "\u00e9", "\x00", "a\nb", strings.Repeat("x", 1000)} {
		mayNot(t, object(name, null(), name, null()))
		mayNot(t, object(name, num(1), name, num(2)))
		mayNot(t, object(name, num(1), "b", null(), name, num(1)))
		mayNot(t, object("b", num(1), name, null(), "c", object(), name, list()))
		if !told(t, object(name, object(name, list(object(name, null()), object(name, null()))), name+"b", object(name, null()))) {
			t.Errorf("members of unlike maps may have one name: %q", name)
		}
	}
	for _, n := range []int{2, 3, 8, 9, 17, 100} {
		for one := range n {
			v := object()
			for i := range n {
				v.Map = append(v.Map, api.Member{Name: fmt.Sprint("n", i)})
			}
			if !json.May(v) || json.Write(v) != textOf(v) {
				t.Fatalf("%d members of unlike names may not be", n)
			}
			v.Map[one].Name = v.Map[(one*5+1)%n].Name
			if json.May(v) != ((one*5+1)%n == one) {
				t.Fatalf("of %d members those with the numbers %d and %d have one name: May tells %v", n, one, (one*5+1)%n, json.May(v))
			}
		}
	}
}

// A map of very many members is judged in one go over its names.
func TestManyMembers(t *testing.T) {
	v := object()
	for i := range 200000 {
		v.Map = append(v.Map, api.Member{Name: fmt.Sprint(i)})
	}
	if !json.May(v) {
		t.Error("many members may not be")
	}
	v.Map = append(v.Map, api.Member{Name: "0"})
	if json.May(v) || json.Write(v) != "" {
		t.Error("one of many names is there twice, and May tells true")
	}
}

// P15.2: a value of depth 16 may be, one of 17 not; the depth is that of the deepest value within.
func TestDepthsThatMayBe(t *testing.T) {
	for _, turn := range turns {
		for _, leaf := range kinds() {
			depth := 1 + min(1, len(leaf.List)+len(leaf.Map))
			for n := range 20 {
				v := nested(turn, n, leaf)
				may := n+depth <= deepest
				for _, v := range []api.Value{v, list(v), object("a", v, "b", null()), list(null(), list(), v, num(1))} {
					if got := told(t, v); got != may || json.May(v) != may {
						t.Fatalf("May of depth %d: %v", n+depth, json.May(v))
					}
					may = n+1+depth <= deepest // of those behind the first one
				}
			}
		}
		if !told(t, nested(turn, 15, null())) || told(t, nested(turn, 16, null())) || told(t, nested(turn, 100, null())) {
			t.Errorf("depths 16, 17 and 101 of %s", turn)
		}
	}
	mayNot(t, nested("l", 16, list()))
	mayNot(t, nested("m", 1000, object()))
}

// got: Get of a value and a name, which mustn't be changed by it; what is told is new memory.
func got(t *testing.T, v api.Value, name string, want api.Value, there bool) {
	t.Helper()
	given := roomy(v)
	first, ok := json.Get(given, name)
	if ok != there || !alike(first, want) {
		t.Fatalf("Get(%#v, %q): %#v, %v", v, name, first, ok)
	}
	if !there && !reflect.DeepEqual(trimmed(first), api.Value{}) {
		t.Fatalf("Get(%#v, %q): %#v beside false", v, name, first)
	}
	second, _ := json.Get(given, name)
	apart(t, given, first, second)
	spoil(first)
	if !alike(given, v) || !alike(second, want) {
		t.Fatalf("Get(%#v, %q): what is told lies in another one's memory", v, name)
	}
	spoil(given)
	if !alike(second, want) {
		t.Fatalf("Get(%#v, %q): what was told changed with what was handed in", v, name)
	}
}

// P15.2: Get of names that are there, and of those that aren't.
func TestGet(t *testing.T) {
	v := object("b", num(1), "a", list(num(2), object("a", text("x"))), "", text("none"), "n", null(), "A", object("b", list(list())), "\u00e9", truth(true), "a\x00", truth(false))
	for _, m := range v.Map {
		got(t, v, m.Name, m.Value, true)
		got(t, object(m.Name, m.Value), m.Name, m.Value, true)
	}
	for _, name := range []string{"c", "B", "aa", "a ", " a", "e\u0301", "\u00c9", "\x00", "x", "b\x00", `\u0061`, "0", "a.b", "\xff", "\xc3", "null"} {
		got(t, v, name, null(), false)
	}
	got(t, object(), "", null(), false)
	got(t, object("a", null()), "", null(), false)
	got(t, object("", null()), "", null(), true)
	got(t, object("", list()), "", list(), true)
}

// P15.2: of several members of one name the first one counts, whatever is wrong with the map besides.
func TestGetOfValuesThatMayNotBe(t *testing.T) {
	got(t, object("a", num(1), "a", num(2)), "a", num(1), true)
	got(t, object("b", num(0), "a", num(3), "b", num(1), "a", num(2), "a", list()), "a", num(3), true)
	got(t, object("", null(), "", num(2)), "", null(), true)
	got(t, object("a", list(), "a", list(num(1))), "a", list(), true)
	got(t, object("\xff", num(1), "\xfe", num(2), "\ufffd", num(3)), "\xfe", num(2), true)
	got(t, object("\xff", num(1), "\xfe", num(2), "\ufffd", num(3)), "\ufffd", num(3), true)
	odd := api.Value{Kind: 9, Bool: true, Num: -1 << 63, Text: "\xff", List: []api.Value{{Kind: -1}, list(num(1))}, Map: []api.Member{{Name: "a", Value: list(list())}, {Name: "a"}}}
	got(t, object("a", odd), "a", odd, true)
	got(t, object("a", nested("lm", 40, odd)), "a", nested("lm", 40, odd), true)
	whole := object("a", num(1))
	whole.Bool, whole.Num, whole.Text, whole.List = true, 1<<60, "\xff", []api.Value{{}}
	got(t, whole, "a", num(1), true)
}

// P15.2: what is no map has no members, whatever lies in its fields.
func TestGetOfWhatIsNoMap(t *testing.T) {
	for _, v := range append(kinds(), list(object("a", num(1))), text("a"), text(`{"a":1}`), list(text("a"), num(1))) {
		if v.Kind != 5 {
			for _, name := range []string{"", "a", "x", "0"} {
				got(t, v, name, null(), false)
			}
		}
	}
	for _, kind := range []int{-1, 0, 1, 2, 3, 4, 6, 5 + 1<<32} {
		v := object("a", num(1), "", num(2))
		v.Kind = kind
		got(t, v, "a", null(), false)
		got(t, v, "", null(), false)
	}
}

// same: Same of two values tells this, either way round, and neither is changed.
func same(t *testing.T, a, b api.Value, want bool) {
	t.Helper()
	one, two := roomy(a), roomy(b)
	if json.Same(one, two) != want || json.Same(two, one) != want || json.Same(a, b) != want {
		t.Fatalf("Same(%#v, %#v): not %v", a, b, want)
	}
	if !json.Same(one, one) || !json.Same(two, trimmed(two)) || !alike(one, a) || !alike(two, b) {
		t.Fatalf("Same(%#v, %#v): a value isn't the same as itself, or was changed", a, b)
	}
}

// P15.2: values that differ in one thing each.
func TestSame(t *testing.T) {
	whole := api.Value{Kind: 5, Bool: true, Num: 4, Text: "t", List: []api.Value{num(1), num(2), list(text("x"))}, Map: []api.Member{{Name: "a", Value: num(1)}, {Name: "b", Value: list(null())}}}
	changes := map[string]func(v *api.Value){
		"kind":                  func(v *api.Value) { v.Kind = 4 },
		"a kind there isn't":    func(v *api.Value) { v.Kind = 5 + 1<<32 },
		"truth":                 func(v *api.Value) { v.Bool = false },
		"number":                func(v *api.Value) { v.Num = 5 },
		"its greatest bits":     func(v *api.Value) { v.Num += 1 << 32 },
		"its sign":              func(v *api.Value) { v.Num = -4 },
		"text":                  func(v *api.Value) { v.Text = "T" },
		"no text":               func(v *api.Value) { v.Text = "" },
		"a text's end":          func(v *api.Value) { v.Text = "t\x00" },
		"no list":               func(v *api.Value) { v.List = nil },
		"an element more":       func(v *api.Value) { v.List = append(v.List, null()) },
		"an element fewer":      func(v *api.Value) { v.List = v.List[:2] },
		"the first one fewer":   func(v *api.Value) { v.List = v.List[1:] },
		"the elements' order":   func(v *api.Value) { v.List[0], v.List[1] = v.List[1], v.List[0] },
		"an element":            func(v *api.Value) { v.List[1].Num = 3 },
		"within an element":     func(v *api.Value) { v.List[2].List[0].Text = "y" },
		"more in an element":    func(v *api.Value) { v.List[2].List = append(v.List[2].List, null()) },
		"no map":                func(v *api.Value) { v.Map = nil },
		"a member more":         func(v *api.Value) { v.Map = append(v.Map, api.Member{}) },
		"a member fewer":        func(v *api.Value) { v.Map = v.Map[:1] },
		"the members' order":    func(v *api.Value) { v.Map[0], v.Map[1] = v.Map[1], v.Map[0] },
		"a name":                func(v *api.Value) { v.Map[0].Name = "c" },
		"a name's end":          func(v *api.Value) { v.Map[1].Name = "b " },
		"names changed about":   func(v *api.Value) { v.Map[0].Name, v.Map[1].Name = "b", "a" },
		"values changed about":  func(v *api.Value) { v.Map[0].Value, v.Map[1].Value = v.Map[1].Value, v.Map[0].Value },
		"a member's value":      func(v *api.Value) { v.Map[0].Value.Num = 2 },
		"its kind":              func(v *api.Value) { v.Map[0].Value.Kind = 1 },
		"within a member":       func(v *api.Value) { v.Map[1].Value.List[0] = list() },
		"a field not needed":    func(v *api.Value) { v.Map[1].Value.List[0].Text = "x" },
		"a member within":       func(v *api.Value) { v.Map[0].Value.Map = []api.Member{{}} },
		"a list for no element": func(v *api.Value) { v.List[0].List = []api.Value{{}} },
	}
	for name, change := range changes {
		for _, wrap := range []func(v api.Value) api.Value{
			func(v api.Value) api.Value { return v },
			func(v api.Value) api.Value { return list(v) },
			func(v api.Value) api.Value { return list(null(), v, num(1)) },
			func(v api.Value) api.Value { return object("x", v) },
			func(v api.Value) api.Value { return object("x", null(), "y", list(v, v)) },
			func(v api.Value) api.Value { return nested("lm", 60, v) },
		} {
			one, two := trimmed(whole), trimmed(whole)
			same(t, wrap(one), wrap(two), true)
			change(&two)
			if alike(one, two) {
				t.Fatalf("%s: nothing is changed", name)
			}
			same(t, wrap(one), wrap(two), false)
			change(&one)
			same(t, wrap(one), wrap(two), true)
		}
	}
}

// P15.2: each of many values with each other one, with what is nearly it.
func TestSameOfEachWithEach(t *testing.T) {
	values := append(kinds(), num(1), num(-1), num(1<<32), text("1"), text("null"), text("X"), list(null()), list(list()), list(object()), list(num(1), num(1)), object("", null()), object("b", num(1)), object("a", num(2)), object("a", num(1), "a", num(1)), object("a", list()), list(text("a"), num(1)), api.Value{Kind: 9}, api.Value{Kind: -1}, api.Value{Text: "x"}, api.Value{Bool: true}, api.Value{List: []api.Value{{}}})
	for i, a := range values {
		for j, b := range values {
			same(t, a, b, i == j)
			same(t, list(a, b), list(b, a), i == j)
			same(t, list(a, b), list(a, b), true)
			same(t, object("a", a, "b", b), object("a", b, "b", a), i == j)
		}
	}
}

// A list, or a map, without elements may be nil or empty, and means the same.
func TestNoElements(t *testing.T) {
	for _, v := range kinds() {
		empty := v
		if len(v.List) == 0 {
			empty.List = make([]api.Value, 0, 3)
		}
		if len(v.Map) == 0 {
			empty.Map = make([]api.Member, 0, 3)
		}
		for _, wrap := range []func(v api.Value) api.Value{func(v api.Value) api.Value { return v }, func(v api.Value) api.Value { return list(v, object("a", v)) }} {
			if one, two := wrap(v), wrap(empty); !json.Same(one, two) || !json.Same(two, one) || !json.May(two) || json.Write(one) != json.Write(two) {
				t.Errorf("%#v: %v, %v, %s", v, json.Same(one, two), json.May(two), json.Write(two))
			}
		}
		member, there := json.Get(api.Value{Kind: 5, List: []api.Value{}, Map: []api.Member{{Name: "a", Value: empty}}}, "a")
		if !there || !alike(member, v) {
			t.Errorf("Get: %#v, %v", member, there)
		}
		apart(t, member, api.Value{List: empty.List}, api.Value{Map: empty.Map})
	}
}

// No call runs out of stack, however deep what it is handed: values may be deeper than any that may be.
func TestVeryDeepValues(t *testing.T) {
	defer debug.SetMaxStack(debug.SetMaxStack(1 << 20))
	const n = 200000
	for _, turn := range []string{"l", "m", "lm"} {
		one, two, other := nested(turn, n, num(1)), nested(turn, n, num(1)), nested(turn, n, num(2))
		if json.May(one) || json.Write(one) != "" {
			t.Errorf("a value %d deep may be", n)
		}
		if !json.Same(one, two) || json.Same(one, other) {
			t.Error("Same of values that are very deep")
		}
		member, there := json.Get(object("a", one), "a")
		if !there || !json.Same(member, two) {
			t.Error("Get of a member that is very deep")
		}
		for at := &member; ; {
			switch {
			case len(at.List) == 1:
				at = &at.List[0]
				continue
			case len(at.Map) == 1:
				at = &at.Map[0].Value
				continue
			}
			at.Num = 7
			break
		}
		if !json.Same(one, two) || json.Same(member, two) {
			t.Error("what Get tells of a member that is very deep lies in its memory")
		}
	}
}
