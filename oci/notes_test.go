package oci_test

import (
	"fmt"
	"math"
	"reflect"
	"slices"
	"strings"
	"testing"

	"orlop/api"
	"orlop/oci"
)

// found: Find tells this, again and again, and the list isn't changed.
func found(t *testing.T, list []api.Note, name, want string, there bool) {
	t.Helper()
	given := roomyNotes(list)
	for range 2 {
		if text, ok := oci.Find(given, name); text != want || ok != there {
			t.Fatalf("Find(%q, %.100q): %.100q, %v, not %.100q, %v", short(api.Manifest{Notes: list}), name, text, ok, want, there)
		}
	}
	if !slices.Equal(given, list) || !slices.Equal(given[:len(list)+2], roomyNotes(list)[:len(list)+2]) {
		t.Fatalf("Find(%v, %q): the list, or the room behind it, was changed", list, name)
	}
}

// put: With tells this, again and again, in new memory, and the list isn't changed.
func put(t *testing.T, list []api.Note, name, text string, want []api.Note) {
	t.Helper()
	given := roomyNotes(list)
	one, two := oci.With(given, name, text), oci.With(given, name, text)
	if !slices.Equal(one, want) || !slices.Equal(two, want) || !slices.Equal(oci.With(list, name, text), want) {
		t.Fatalf("With(%q, %.100q, %.100q): %q, not %q", list, name, text, one, want)
	}
	if !slices.Equal(given[:len(list)+2], roomyNotes(list)[:len(list)+2]) {
		t.Fatalf("With(%v, %q, %q): the list, or the room behind it, was changed", list, name, text)
	}
	apart(t, api.Manifest{Notes: given}, api.Manifest{Notes: one}, api.Manifest{Notes: two})
	spoilNotes(one)
	spoilNotes(given)
	if !slices.Equal(two, want) {
		t.Fatalf("With(%v, %q, %q): what was told is no more what it was", list, name, text)
	}
	found(t, two, name, text, true)
}

// listOf: notes of these names, each with a text of its own.
func listOf(names ...string) []api.Note {
	var list []api.Note
	for i, name := range names {
		list = append(list, api.Note{Name: name, Text: fmt.Sprint("t", i)})
	}
	return list
}

// P16.3: names that are there, the first, those in the middle, the last, and those that aren't, in lists of each length.
func TestFind(t *testing.T) {
	found(t, nil, "", "", false)
	found(t, []api.Note{}, "a", "", false)
	for n := range len(rising) + 1 {
		list := listOf(rising[:n]...)
		for i, name := range rising {
			if i < n {
				found(t, list, name, fmt.Sprint("t", i), true)
			} else {
				found(t, list, name, "", false)
			}
		}
		for _, name := range []string{"a ", " a", "A\x00", "e\u0301", "\xff", "\xc3", "t0", "\x00\x00\x00", strings.Repeat("a", 1<<16)} {
			found(t, list, name, "", false)
		}
	}
	found(t, notes("a", ""), "a", "", true)
	found(t, notes("", ""), "", "", true)
	found(t, notes("", "x"), "", "x", true)
	found(t, notes("a", "b"), "b", "", false)
	long := strings.Repeat("n", longest)
	found(t, notes(long, long), long, long, true)
	found(t, notes(long, long), long[1:], "", false)
	found(t, notes(long+"a", "x", long+"b", "y"), long+"b", "y", true)
}

// P16.3: lists that are no notes: out of order, of one name several times (the first one counts), too many, no UTF-8.
func TestFindInListsThatAreNoNotes(t *testing.T) {
	list := notes("b", "1", "a", "2", "b", "3", "\xff", "4", "a", "5", "\ufffd", "6", "", "7", "\xfe", "8", "", "9")
	for name, text := range map[string]string{"b": "1", "a": "2", "\xff": "4", "\ufffd": "6", "": "7", "\xfe": "8"} {
		found(t, list, name, text, true)
	}
	for _, name := range []string{"c", "\x00", "\xfd", "ab", "ba"} {
		found(t, list, name, "", false)
	}
	found(t, notes("a", "", "a", "x"), "a", "", true)
	many := manyNotes(300)
	slices.Reverse(many)
	for i, n := range many {
		found(t, many, n.Name, fmt.Sprint("text ", 299-i), true)
	}
}

// P16.3: a name ahead of all, between two, behind all, and each that is there already.
func TestWith(t *testing.T) {
	put(t, nil, "", "", notes("", ""))
	put(t, []api.Note{}, "a", "b", notes("a", "b"))
	put(t, notes("b", "1"), "a", "2", notes("a", "2", "b", "1"))
	put(t, notes("b", "1"), "c", "2", notes("b", "1", "c", "2"))
	put(t, notes("b", "1"), "b", "2", notes("b", "2"))
	put(t, notes("b", "1"), "b", "1", notes("b", "1"))
	put(t, notes("b", "1"), "", "2", notes("", "2", "b", "1"))
	put(t, notes("a", "1", "c", "2"), "b", "", notes("a", "1", "b", "", "c", "2"))
	put(t, notes("a", "1", "b", "2"), "aa", "x", notes("a", "1", "aa", "x", "b", "2"))
	put(t, notes("aa", "1"), "a", "x", notes("a", "x", "aa", "1"))
	put(t, notes("\uffff", "1"), "\U00010000", "x", notes("\uffff", "1", "\U00010000", "x"))
	put(t, notes("\u00e9", "1"), "z", "x", notes("z", "x", "\u00e9", "1"))
	for i, name := range rising {
		all := listOf(rising...)
		all[i].Text = "new"
		put(t, listOf(rising...), name, "new", all)
		put(t, slices.Delete(listOf(rising...), i, i+1), name, "new", all)
		for j, other := range rising {
			two := notes(name, "x", other, "new")
			if i > j {
				two = notes(other, "new", name, "x")
			} else if i == j {
				two = notes(name, "new")
			}
			put(t, notes(name, "x"), other, "new", two)
		}
	}
}

// P16.3: one name put twice has the later text; two names come to the same list in both orders.
func TestWithAgain(t *testing.T) {
	for _, list := range [][]api.Note{nil, notes("b", "1"), notes("a", "1", "c", "2"), listOf("\x00", "aa", "b", "d", "\u00e9"), manyNotes(mostNotes)} {
		for _, a := range rising {
			once := oci.With(list, a, "x")
			put(t, once, a, "y", oci.With(list, a, "y"))
			put(t, once, a, "x", once)
			for _, b := range rising {
				if a != b {
					put(t, oci.With(list, b, "z"), a, "x", oci.With(once, b, "z"))
				}
			}
			for _, n := range list {
				if n.Name != a {
					found(t, once, n.Name, n.Text, true)
				}
			}
		}
	}
}

// P16.3: lists that are full: one more is one too many; a text that is put under a name that is there isn't.
func TestWithOnFullLists(t *testing.T) {
	for n := range 40 {
		list := manyNotes(n)
		for at := range n + 1 {
			name := "n"
			if at > 0 {
				name = list[at-1].Name + "+"
			}
			put(t, list, name, "new", slices.Insert(manyNotes(n), at, api.Note{Name: name, Text: "new"}))
			if oci.May(api.Manifest{Notes: oci.With(list, name, "new")}) != (n < mostNotes) {
				t.Fatalf("%d notes and one more", n)
			}
			if at > 0 {
				changed := manyNotes(n)
				changed[at-1].Text = "new"
				put(t, list, list[at-1].Name, "new", changed)
			}
		}
	}
	long := strings.Repeat("\U0001f600", longest)
	put(t, notes("a", "b"), long, long, notes("a", "b", long, long))
	put(t, notes("a", "b"), "\xff", "\xfe", notes("a", "b", "\xff", "\xfe"))
}

// P16.3: what is put into notes makes notes; into lists that are none a text comes under its name too, and no other note goes, or changes its place among the others.
func TestWithOnListsThatAreNoNotes(t *testing.T) {
	lists := [][]api.Note{notes("b", "1", "a", "2"), notes("a", "1", "a", "2"), notes("c", "1", "a", "2", "c", "3", "b", "4", "a", "5"), notes("", "1", "", "2", "", "3"), notes("\xff", "1", "\xfe", "2"), listOf("z", "y", "x", "b", "a", "")}
	for _, list := range lists {
		for _, name := range []string{"", "a", "aa", "b", "c", "d", "z", "zz", "\xff", "\xfe"} {
			got := oci.With(roomyNotes(list), name, "new")
			put(t, list, name, "new", got)
			at := slices.IndexFunc(got, func(n api.Note) bool { return n.Name == name })
			was := slices.IndexFunc(list, func(n api.Note) bool { return n.Name == name })
			if was >= 0 {
				got[at].Text = list[was].Text
			} else {
				got = slices.Delete(got, at, at+1)
			}
			if !slices.Equal(got, list) || was >= 0 && was != at {
				t.Errorf("With(%v, %q): %v", list, name, got)
			}
		}
	}
}

// same: Same tells this of two manifests, either way round, and of each with itself true.
func same(t *testing.T, a, b api.Manifest, want bool) {
	t.Helper()
	one, two := roomy(a), roomy(b)
	keptOne, keptTwo := whole(one), whole(two)
	if oci.Same(one, two) != want || oci.Same(two, one) != want || oci.Same(a, b) != want {
		t.Fatalf("Same(%+v, %+v): not %v", a, b, want)
	}
	if !oci.Same(one, one) || !oci.Same(one, a) || !oci.Same(two, trimmed(two)) {
		t.Fatalf("%+v, %+v: one isn't the same as itself", a, b)
	}
	if !reflect.DeepEqual(whole(one), keptOne) || !reflect.DeepEqual(whole(two), keptTwo) {
		t.Fatalf("Same(%+v, %+v): one was changed", a, b)
	}
}

// P16.3: manifests that differ in one thing each.
func TestSame(t *testing.T) {
	for name, change := range map[string]func(m *api.Manifest){
		"no parts":              func(m *api.Manifest) { m.Parts = nil },
		"a part more":           func(m *api.Manifest) { m.Parts = append(m.Parts, api.Descriptor{}) },
		"the last one twice":    func(m *api.Manifest) { m.Parts = append(m.Parts, m.Parts[2]) },
		"a part fewer":          func(m *api.Manifest) { m.Parts = m.Parts[:2] },
		"the first one fewer":   func(m *api.Manifest) { m.Parts = m.Parts[1:] },
		"the parts' order":      func(m *api.Manifest) { m.Parts[0], m.Parts[1] = m.Parts[1], m.Parts[0] },
		"the last parts' order": func(m *api.Manifest) { m.Parts[1], m.Parts[2] = m.Parts[2], m.Parts[1] },
		"one part's Media":      func(m *api.Manifest) { m.Parts[0].Media = "Layer" },
		"the last one's Media":  func(m *api.Manifest) { m.Parts[2].Media += "\x00" },
		"a Media's end":         func(m *api.Manifest) { m.Parts[0].Media = "laye" },
		"no Media":              func(m *api.Manifest) { m.Parts[0].Media = "" },
		"a digest's first byte": func(m *api.Manifest) { m.Parts[1].Digest[0]++ },
		"a digest's last byte":  func(m *api.Manifest) { m.Parts[1].Digest[31] ^= 0x80 },
		"the last one's digest": func(m *api.Manifest) { m.Parts[2].Digest[31]++ },
		"a longer digest":       func(m *api.Manifest) { m.Parts[0].Digest = append(m.Parts[0].Digest, 0) },
		"a shorter digest":      func(m *api.Manifest) { m.Parts[0].Digest = m.Parts[0].Digest[:31] },
		"no digest":             func(m *api.Manifest) { m.Parts[0].Digest = nil },
		"another one's digest":  func(m *api.Manifest) { m.Parts[0].Digest = slices.Clone(m.Parts[1].Digest) },
		"a size":                func(m *api.Manifest) { m.Parts[0].Size++ },
		"its sign":              func(m *api.Manifest) { m.Parts[0].Size = -m.Parts[0].Size },
		"its greatest bits":     func(m *api.Manifest) { m.Parts[1].Size = 1 << 32 },
		"the last one's size":   func(m *api.Manifest) { m.Parts[2].Size = math.MinInt },
		"no notes of a part":    func(m *api.Manifest) { m.Parts[0].Notes = nil },
		"notes of a part":       func(m *api.Manifest) { m.Parts[1].Notes = notes("", "") },
		"one note more":         func(m *api.Manifest) { m.Parts[0].Notes = append(m.Parts[0].Notes, api.Note{}) },
		"one note fewer":        func(m *api.Manifest) { m.Parts[0].Notes = m.Parts[0].Notes[:1] },
		"a part's note's name":  func(m *api.Manifest) { m.Parts[2].Notes[1].Name = "\U00010001" },
		"a part's note's text":  func(m *api.Manifest) { m.Parts[2].Notes[1].Text += " " },
		"a note's name, text":   func(m *api.Manifest) { m.Parts[0].Notes[0] = api.Note{Name: "1", Text: "a"} },
		"a part's notes' order": func(m *api.Manifest) { slices.Reverse(m.Parts[0].Notes) },
		"another one's notes":   func(m *api.Manifest) { m.Parts[0].Notes, m.Parts[2].Notes = m.Parts[2].Notes, m.Parts[0].Notes },
		"the part's own notes":  func(m *api.Manifest) { m.Parts[1].Notes, m.Notes = m.Notes, nil },
		"no notes":              func(m *api.Manifest) { m.Notes = nil },
		"an own note more":      func(m *api.Manifest) { m.Notes = append(m.Notes, api.Note{Name: "o"}) },
		"an own note fewer":     func(m *api.Manifest) { m.Notes = m.Notes[:2] },
		"the first own note":    func(m *api.Manifest) { m.Notes = m.Notes[1:] },
		"the own notes' order":  func(m *api.Manifest) { slices.Reverse(m.Notes) },
		"an own note's name":    func(m *api.Manifest) { m.Notes[0].Name = "Epoch" },
		"the last one's name":   func(m *api.Manifest) { m.Notes[2].Name = "namf" },
		"an own note's text":    func(m *api.Manifest) { m.Notes[2].Text = "" },
		"another one's text":    func(m *api.Manifest) { m.Notes[0].Text, m.Notes[1].Text = m.Notes[1].Text, m.Notes[0].Text },
	} {
		one, two := trimmed(some()), trimmed(some())
		same(t, one, two, true)
		change(&two)
		if alike(one, two) {
			t.Fatalf("%s: nothing is changed", name)
		}
		same(t, one, two, false)
		same(t, two, api.Manifest{}, false)
		change(&one)
		same(t, one, two, true)
	}
}

// P16.3: each of some manifests with each other one; those that are none too.
func TestSameOfEachWithEach(t *testing.T) {
	list := []api.Manifest{{}, some(), {Parts: some().Parts}, {Notes: some().Notes}, {Parts: make([]api.Descriptor, 1)}, {Parts: make([]api.Descriptor, 2)}, {Notes: make([]api.Note, 1)}, {Notes: make([]api.Note, 2)}, {Parts: manyParts(64)}, {Parts: manyParts(65)}, {Notes: manyNotes(16)}, {Notes: manyNotes(17)}, {Notes: notes("\xff", "")}, {Notes: notes("\xfe", "")}, {Notes: notes("\ufffd", "")}, {Notes: notes("", "\xff")}, {Notes: notes("a", "b", "", "")}, {Notes: notes("ab", "")}, {Notes: notes("a", "b")}, {Parts: []api.Descriptor{{Media: "a", Notes: notes("a", "b")}}}, {Parts: []api.Descriptor{{Media: "a"}}, Notes: notes("a", "b")}}
	for i, a := range list {
		for j, b := range list {
			same(t, a, b, i == j)
		}
	}
}

// A list without elements may be nil or empty, and means the same.
func TestNoElements(t *testing.T) {
	bare := some()
	bare.Notes = nil
	empty := trimmed(bare)
	empty.Notes = []api.Note{}
	empty.Parts[1].Notes = make([]api.Note, 0, 4)
	if !oci.Same(bare, empty) || !oci.Same(empty, bare) || !oci.Same(api.Manifest{}, api.Manifest{Parts: []api.Descriptor{}, Notes: []api.Note{}}) {
		t.Error("lists that are nil and that are empty aren't the same")
	}
	digests := []api.Manifest{{Parts: []api.Descriptor{{Digest: []byte{}}}}, {Parts: make([]api.Descriptor, 1)}}
	if !oci.Same(digests[0], digests[1]) || !oci.Same(digests[1], digests[0]) {
		t.Error("digests that are nil and that are empty aren't the same")
	}
	for _, m := range []api.Manifest{bare, empty} {
		text, textCode := oci.JSON(m)
		b, code := oci.Bytes(m)
		if text != textOf(bare) || textCode != api.OK || string(b) != string(rowOf(bare)) || code != api.OK || !oci.May(m) {
			t.Errorf("%+v: %s, code %d, %x, code %d", m, text, textCode, b, code)
		}
	}
	spare := make([]api.Note, 0, 4)
	if got := oci.With(spare, "a", "b"); !slices.Equal(got, notes("a", "b")) || !slices.Equal(spare[:4], make([]api.Note, 4)) {
		t.Errorf("With an empty list that has room: %v, and in the room: %v", got, spare[:4])
	}
}
