package oci_test

import (
	"bytes"
	"encoding/binary"
	"fmt"
	"math"
	"math/rand"
	"slices"
	"strings"
	"testing"
	"unicode/utf8"

	"orlop/api"
	"orlop/oci"
)

// drawer draws manifests, texts and bytes, the same each time.
type drawer struct{ *rand.Rand }

func draws(seed int64) drawer { return drawer{rand.New(rand.NewSource(seed))} }

func oneOf[T any](d drawer, list ...T) T { return list[d.Intn(len(list))] }

func (d drawer) text() string {
	var out strings.Builder
	for range d.Intn(1 + d.Intn(8)) {
		r := rune('a' + d.Intn(3))
		switch d.Intn(5) {
		case 0:
			r = rune(d.Intn(0x80))
		case 1:
			r = []rune(oneOf(d, rising[1:]...))[0]
		case 2:
			if any := rune(d.Intn(0x110000)); utf8.ValidRune(any) {
				r = any
			}
		}
		out.WriteRune(r)
	}
	return out.String()
}

// howMany: mostly few, sometimes as many as there may be.
func (d drawer) howMany(most int) int {
	if d.Intn(30) == 0 {
		return most - d.Intn(2)
	}
	return d.Intn(4)
}

func (d drawer) notes() []api.Note {
	byName := map[string]string{}
	for range d.howMany(mostNotes) {
		byName[d.text()] = d.text()
	}
	var list []api.Note
	for name, text := range byName {
		list = append(list, api.Note{Name: name, Text: text})
	}
	slices.SortFunc(list, func(a, b api.Note) int { return bytes.Compare([]byte(a.Name), []byte(b.Name)) })
	return list
}

func (d drawer) part() api.Descriptor {
	one := api.Descriptor{Media: d.text(), Digest: make([]byte, digestLen), Size: d.Intn(1<<31) >> d.Intn(32), Notes: d.notes()}
	d.Read(one.Digest)
	return one
}

func (d drawer) manifest() api.Manifest {
	m := api.Manifest{Notes: d.notes()}
	for range d.howMany(mostParts) {
		m.Parts = append(m.Parts, d.part())
	}
	return m
}

// oddNotes: notes with one change, which may make them none.
func (d drawer) oddNotes(list []api.Note) []api.Note {
	list = roomyNotes(list)
	if len(list) == 0 {
		return notes(oneOf(d, "", "a", "\xff"), d.text())
	}
	at, other := d.Intn(len(list)), d.Intn(len(list))
	switch d.Intn(6) {
	case 0:
		list[at], list[other] = list[other], list[at]
	case 1:
		list[at].Name = oneOf(d, list[other].Name, list[at].Name+"\x00", list[at].Name+"\xff", d.text())
	case 2:
		list[at].Text = oneOf(d, d.text(), "\xc3", strings.Repeat("a", longest+d.Intn(2)))
	case 3:
		list = slices.Delete(list, at, at+1)
	case 4:
		list = append(list, list[other])
	case 5:
		list = append(list, manyNotes(mostNotes-1)...)
	}
	return list
}

// odd: a manifest with one change, which may make it none.
func (d drawer) odd(m api.Manifest) api.Manifest {
	m = trimmed(m)
	if len(m.Parts) == 0 || d.Intn(4) == 0 {
		m.Notes = d.oddNotes(m.Notes)
		return m
	}
	at := d.Intn(len(m.Parts))
	one := &m.Parts[at]
	switch d.Intn(8) {
	case 0:
		one.Media = oneOf(d, d.text(), "\xff", one.Media+"\x80", strings.Repeat("a", longest+d.Intn(2)))
	case 1:
		one.Digest = one.Digest[:oneOf(d, 0, len(one.Digest)/2, max(len(one.Digest)-1, 0))]
	case 2:
		one.Digest = append(one.Digest, 0)
	case 3:
		one.Digest = bytes.Clone(d.turned(one.Digest, []string{"\x00"}))
	case 4:
		one.Size = oneOf(d, 0, -1, greatest, greatest+1, math.MinInt, math.MaxInt, int(d.Uint64()))
	case 5:
		one.Notes = d.oddNotes(one.Notes)
	case 6:
		m.Parts = slices.Insert(m.Parts, at, d.part())
	case 7:
		m.Parts = append(m.Parts, trimmed(api.Manifest{Parts: manyParts(mostParts - 1)}).Parts...)
	}
	return m
}

// loose: a text that tells a manifest in another way than it is written: with blanks, escapes, members in another order.
func (d drawer) loose(m api.Manifest) string {
	var layers []string
	for _, one := range m.Parts {
		layers = append(layers, d.looseMap(append(d.looseNotes(one.Notes), [2]string{"mediaType", d.looseText(one.Media)}, [2]string{"digest", d.looseText(fmt.Sprintf("sha256:%x", one.Digest))}, [2]string{"size", fmt.Sprint(one.Size)}), true))
	}
	members := append(d.looseNotes(m.Notes), [2]string{"schemaVersion", "2"}, [2]string{"layers", "[" + d.blank() + strings.Join(layers, ",") + "]"})
	return d.looseMap(members, true)
}

func (d drawer) blank() string {
	if d.Intn(4) > 0 {
		return ""
	}
	return strings.Repeat(oneOf(d, blanks...), d.Intn(3))
}

func (d drawer) looseNotes(list []api.Note) [][2]string {
	var members [][2]string
	for _, n := range list {
		members = append(members, [2]string{n.Name, d.looseText(n.Text)})
	}
	if len(members) == 0 {
		return nil
	}
	return [][2]string{{"annotations", d.looseMap(members, false)}}
}

func (d drawer) looseMap(members [][2]string, anyOrder bool) string {
	if anyOrder {
		d.Shuffle(len(members), func(i, j int) { members[i], members[j] = members[j], members[i] })
	}
	var parts []string
	for _, m := range members {
		parts = append(parts, d.blank()+d.looseText(m[0])+d.blank()+":"+d.blank()+m[1]+d.blank())
	}
	return d.blank() + "{" + strings.Join(parts, ",") + "}" + d.blank()
}

func (d drawer) looseText(s string) string {
	often := oneOf(d, 1, 4, 1000)
	return coded(strings.ReplaceAll(quoted(s), "/", oneOf(d, "/", `\/`)), oneOf(d, `\u%04x`, `\u%04X`), func(int) bool { return d.Intn(often) == 0 })
}

// pieces are put into texts.
var pieces = []string{"{", "}", "[", "]", ",", ":", `"`, `""`, "0", "2", "-", "null", "x", "\xff", "\x00", " ", `\`, `\u0000`, `"annotations":{},`, `,"annotations":{}`, `,"annotations":{"a":"b"}`, `"size":1,`, `,"x":1`, `"a":"b",`, "sha256:", "00", "layers", "size"}

// turned: bytes with one change.
func (d drawer) turned(b []byte, pieces []string) []byte {
	at := d.Intn(len(b) + 1)
	end := min(len(b), at+1+d.Intn(1+d.Intn(8)))
	switch d.Intn(5) {
	case 0:
		return slices.Concat(b[:at], b[end:])
	case 1:
		return slices.Concat(b[:at], []byte(oneOf(d, pieces...)), b[at:])
	case 2:
		return slices.Concat(b[:at], []byte(oneOf(d, pieces...)), b[end:])
	case 3:
		from := d.Intn(len(b) + 1)
		return slices.Concat(b[:at], b[from:min(len(b), from+d.Intn(40))], b[at:])
	}
	b = bytes.Clone(b)
	if at < len(b) {
		b[at] = byte(d.Intn(256))
	}
	return b
}

// P16.1, P16.2, P16.4: drawn manifests, and such with some changes: what they are, how they look, and that what is written in any way is read as it was.
func TestDrawnManifests(t *testing.T) {
	d := draws(1)
	right, loose := 0, 0
	for range 4000 {
		m := d.manifest()
		is(t, m)
		if b := d.loose(m); len(b) <= mostJSON {
			loose++
			reads(t, b, m)
		}
		changed := m
		for range 1 + d.Intn(3) {
			changed = d.odd(changed)
		}
		if told(t, changed) {
			right++
		} else {
			isNot(t, changed)
		}
		same(t, m, changed, alike(m, changed))
	}
	if right < 700 || right > 3000 || loose < 3900 {
		t.Errorf("%d of the changed manifests are right, %d were read from loose texts", right, loose)
	}
}

// P16.2: drawn texts: those of manifests with some changes.
func TestDrawnTexts(t *testing.T) {
	d := draws(2)
	codes := map[api.Code]int{}
	for range 20000 {
		b := []byte(d.loose(d.manifest()))
		for range d.Intn(4) {
			b = d.turned(b, pieces)
		}
		codes[judged(t, string(b))]++
	}
	if codes[api.OK] < 4000 || codes[api.ErrFormat] < 8000 {
		t.Errorf("codes: %v", codes)
	}
}

// P16.2, P16.4: drawn bytes: those of manifests with some changes, and others.
func TestDrawnRows(t *testing.T) {
	d := draws(3)
	var words []string
	for _, n := range numbers {
		words = append(words, number(n))
	}
	words = append(words, "OMF1", "a", "\xff", laidText("a"), laidText(""), laidText("\u00e9"))
	right := 0
	const times = 40000
	for i := range times {
		b := rowOf(d.manifest())
		switch i % 8 {
		case 0:
			b = make([]byte, d.Intn(100))
			d.Read(b)
		case 1:
			b = []byte("OMF1")
			for range d.Intn(12) {
				b = append(b, oneOf(d, words...)...)
			}
		default:
			for range d.Intn(3) {
				b = d.turned(b, words)
			}
			if at := d.Intn(len(b) + 1); at+4 <= len(b) && d.Intn(3) == 0 {
				binary.BigEndian.PutUint32(b[at:], oneOf(d, numbers...))
			}
		}
		if judgedRow(t, b) {
			right++
		}
	}
	if right < times/5 || right > times*3/5 {
		t.Errorf("%d of the drawn rows are right", right)
	}
}

// P16.3: drawn scripts of With and Find, held to a map, on notes, and on lists that are none.
func TestDrawnNotes(t *testing.T) {
	d := draws(4)
	for range 1500 {
		list, texts := []api.Note(nil), map[string]string{}
		for range d.Intn(25) {
			name, text := oneOf(d, d.text(), oneOf(d, rising...), "a"), d.text()
			list = oci.With(list, name, text)
			texts[name] = text
			var want []api.Note
			for name, text := range texts {
				want = append(want, api.Note{Name: name, Text: text})
			}
			slices.SortFunc(want, func(a, b api.Note) int { return bytes.Compare([]byte(a.Name), []byte(b.Name)) })
			if !slices.Equal(list, want) || oci.May(api.Manifest{Notes: list}) != (len(want) <= mostNotes) {
				t.Fatalf("%q, not %q", list, want)
			}
			other := d.text()
			text, there := texts[other]
			found(t, list, other, text, there)
		}
		odd, name := d.oddNotes(list), d.text()
		if len(odd) > 0 && d.Intn(2) == 0 {
			name = oneOf(d, odd...).Name
		}
		put(t, odd, name, "new", oci.With(odd, name, "new"))
	}
}

// What was asked before doesn't count, nor what was wrong with it; what is handed in is asked for as it is then, and what was told of it before stays.
func TestCallsHangOnTheirArgumentsAlone(t *testing.T) {
	d := draws(5)
	m := some()
	text, row := textOf(m), rowOf(m)
	for range 3000 {
		at := d.Intn(len(m.Parts))
		switch d.Intn(4) {
		case 0:
			b, code := oci.Bytes(m)
			kept := bytes.Clone(b)
			m.Parts[at].Digest[d.Intn(digestLen)] ^= 0x10
			if again, _ := oci.Bytes(m); code != api.OK || !bytes.Equal(b, kept) || bytes.Equal(again, b) || !bytes.Equal(again, rowOf(m)) {
				t.Fatal("Bytes of what was changed behind the call")
			}
			if s, _ := oci.JSON(m); s != textOf(m) || s == text {
				t.Fatal("JSON of what was changed behind the call")
			}
		case 1:
			m.Parts[at].Size = -1
			if b, code := oci.Bytes(m); oci.May(m) || len(b) != 0 || code != api.ErrArg {
				t.Fatal("a size below 0 behind a right one")
			}
		case 2:
			changed := d.turned(row, []string{"x"})
			judgedRow(t, changed)
			judged(t, string(d.turned([]byte(text), pieces)))
		case 3:
			list := oci.With(m.Notes, "n", "x")
			m.Notes[0].Text = "2"
			if list[0].Text != "1" || oci.With(m.Notes, "n", "x")[0].Text != "2" {
				t.Fatal("With notes that were changed behind the call")
			}
		}
		m = some()
		is(t, m)
		readsRow(t, row, m)
	}
}

// No call panics, whatever it was handed.
func TestNoCallPanics(t *testing.T) {
	d := draws(6)
	texts := []string{"", "a", "\xff", "\xed\xa0\x80", strings.Repeat("\xff", 70000), strings.Repeat("a", 70000), textOf(some()), "sha256:", "annotations"}
	anyNotes := func() []api.Note {
		list := make([]api.Note, d.Intn(20))
		for i := range list {
			list[i] = api.Note{Name: oneOf(d, texts...), Text: oneOf(d, texts...)}
		}
		return list
	}
	anything := func() api.Manifest {
		m := api.Manifest{Parts: make([]api.Descriptor, d.Intn(70)), Notes: anyNotes()}
		for i := range m.Parts {
			m.Parts[i] = api.Descriptor{Media: oneOf(d, texts...), Digest: make([]byte, d.Intn(40)), Size: int(d.Uint64()) >> d.Intn(64), Notes: anyNotes()}
		}
		return m
	}
	for range 600 {
		a, b := anything(), anything()
		may := oci.May(a)
		text, textCode := oci.JSON(a)
		row, code := oci.Bytes(a)
		if may != isManifest(a) || !may && (text != "" || textCode != api.ErrArg || len(row) != 0 || code != api.ErrArg) {
			t.Fatalf("%s: May tells %v, codes %d, %d", short(a), may, textCode, code)
		}
		if oci.Same(a, b) != alike(a, b) || !oci.Same(a, a) {
			t.Fatal("Same of manifests that are none")
		}
		for _, name := range texts {
			oci.Find(a.Notes, name)
			found(t, oci.With(a.Notes, name, name), name, name, true)
			oci.FromJSON([]byte(name))
			oci.FromBytes([]byte(name))
		}
	}
}
