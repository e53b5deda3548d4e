package oci_test

import (
	"bytes"
	"fmt"
	"math"
	"strings"
	"testing"

	"orlop/api"
	"orlop/oci"
)

// P16.1: the examples of the document, and each kind of part, as JSON and as bytes, written out.
func TestExamples(t *testing.T) {
	text, code := oci.JSON(api.Manifest{})
	if text != `{"schemaVersion":2,"layers":[]}` || code != api.OK {
		t.Errorf("JSON of nothing: %s, code %d", text, code)
	}
	b, code := oci.Bytes(api.Manifest{})
	if !bytes.Equal(b, []byte{0x4f, 0x4d, 0x46, 0x31, 0, 0, 0, 0, 0, 0, 0, 0}) || code != api.OK {
		t.Errorf("Bytes of nothing: %x, code %d", b, code)
	}
	one := part("l\x01", 0, 0x01020304, notes("a", "1", "b\"", "\\")...)
	one.Digest = bytes.Repeat([]byte{0x0a, 0xff}, 16)
	m := api.Manifest{Parts: []api.Descriptor{one}, Notes: notes("", "\u00e9")}
	digits := strings.Repeat("0aff", 16)
	wantText := `{"schemaVersion":2,"layers":[{"mediaType":"l\u0001","digest":"sha256:` + digits + `","size":16909060,"annotations":{"a":"1","b\"":"\\"}}],"annotations":{"":"` + "\u00e9" + `"}}`
	if text, code := oci.JSON(m); text != wantText || code != api.OK {
		t.Errorf("JSON: %s, code %d", text, code)
	}
	wantRow := "OMF1\x00\x00\x00\x01\x00\x00\x00\x02l\x01" + string(one.Digest) + "\x01\x02\x03\x04" +
		"\x00\x00\x00\x02\x00\x00\x00\x01a\x00\x00\x00\x011\x00\x00\x00\x02b\"\x00\x00\x00\x01\\" +
		"\x00\x00\x00\x01\x00\x00\x00\x00\x00\x00\x00\x02\xc3\xa9"
	if b, code := oci.Bytes(m); string(b) != wantRow || code != api.OK {
		t.Errorf("Bytes: %q, code %d", b, code)
	}
	if got, code := oci.FromJSON([]byte(wantText)); !alike(got, m) || code != api.OK {
		t.Errorf("FromJSON: %s, code %d", short(got), code)
	}
	if got, code := oci.FromBytes([]byte(wantRow)); !alike(got, m) || code != api.OK {
		t.Errorf("FromBytes: %s, code %d", short(got), code)
	}
}

// P16.1: no parts and no notes, nil and empty; all that there may be in one.
func TestManifests(t *testing.T) {
	empty := some()
	empty.Parts[1].Notes = []api.Note{}
	is(t, api.Manifest{}, api.Manifest{Parts: []api.Descriptor{}, Notes: []api.Note{}}, some(), empty,
		api.Manifest{Notes: notes("a", "b")}, api.Manifest{Parts: []api.Descriptor{part("layer", 1, 28)}},
		api.Manifest{Parts: []api.Descriptor{part("same", 1, 1), part("same", 1, 1), part("same", 1, 1)}})
}

// P16.1: up to 64 parts, whatever they are, and no more.
func TestHowManyParts(t *testing.T) {
	for _, n := range []int{1, 2, 3, 63, 64} {
		is(t, api.Manifest{Parts: manyParts(n)}, api.Manifest{Parts: manyParts(n), Notes: manyNotes(3)})
	}
	for _, n := range []int{65, 66, 127, 128, 129, 256, 320, 400} {
		isNot(t, api.Manifest{Parts: manyParts(n)}, api.Manifest{Parts: manyParts(n), Notes: manyNotes(3)})
	}
	isNot(t, api.Manifest{Parts: make([]api.Descriptor, 1<<16)}, api.Manifest{Parts: make([]api.Descriptor, 1)})
	for at := range mostParts {
		bad := api.Manifest{Parts: manyParts(mostParts)}
		bad.Parts[at].Size = -1
		if oci.May(bad) {
			t.Fatalf("of 64 parts that with the number %d isn't looked at", at)
		}
	}
}

// P16.1: up to 16 notes, a descriptor's and the manifest's own, and no more.
func TestHowManyNotes(t *testing.T) {
	for _, n := range []int{0, 1, 2, 15, 16} {
		is(t, withNotes(manyNotes(n))...)
	}
	for _, n := range []int{17, 18, 32, 33, 100} {
		isNot(t, withNotes(manyNotes(n))...)
	}
	full := api.Manifest{Parts: manyParts(mostParts), Notes: manyNotes(mostNotes)}
	for i := range full.Parts {
		full.Parts[i].Notes = manyNotes(mostNotes)
	}
	is(t, full)
	full.Parts[63].Notes = manyNotes(17)
	isNot(t, full)
}

// rising: names, each greater than the one ahead, byte by byte.
var rising = []string{"", "\x00", "\x00\x00", "\x01", "\n", " ", "!", "\"", "0", "10", "2", "A", "B", "Z", "\\", "_", "a", "a\x00", "aA", "aa", "aaa", "ab", "b", "ba", "z", "~", "\x7f", "\u0080", "\u00c9", "\u00e9", "\u00ff", "\u0100", "\u07ff", "\u0800", "\u20ac", "\ud7ff", "\ue000", "\ufeff", "\ufffd", "\uffff", "\U00010000", "\U0001f600", "\U0010ffff"}

// P16.1: notes in order and out of it: all pairs of names that rise only byte by byte, and each change of a list of them.
func TestNotesInOrder(t *testing.T) {
	for i, a := range rising {
		for j, b := range rising {
			list := withNotes(notes(a, "x", b, "w"))
			if i < j {
				is(t, list[:2]...)
			} else {
				isNot(t, list[:2]...)
			}
		}
	}
	long := strings.Repeat("n", 300)
	is(t, withNotes(notes(long, "", long+"\x00", "", long+"a", ""))...)
	isNot(t, withNotes(notes(long+"\x00", "", long, ""))...)
	for from := 0; from+mostNotes <= len(rising); from += 9 {
		var list []api.Note
		for i, name := range rising[from : from+mostNotes] {
			list = append(list, api.Note{Name: name, Text: fmt.Sprint(i)})
		}
		is(t, withNotes(list)...)
		for i := 1; i < len(list); i++ {
			turned := roomyNotes(list)
			turned[i-1], turned[i] = turned[i], turned[i-1]
			isNot(t, withNotes(turned)...)
			twice := roomyNotes(list)
			twice[i].Name = twice[i-1].Name
			isNot(t, withNotes(twice)...)
		}
		ends := roomyNotes(list)
		ends[0], ends[len(ends)-1] = ends[len(ends)-1], ends[0]
		isNot(t, withNotes(ends)...)
	}
}

// P16.1: a note's text doesn't count for the order; one descriptor's notes don't for another's, nor for the manifest's.
func TestWhatDoesNotCountForTheOrder(t *testing.T) {
	is(t, withNotes(notes("a", "z", "b", "a", "c", "z", "d", ""))...)
	is(t, withNotes(notes("a", "x", "b", "x"))...)
	is(t, api.Manifest{Parts: []api.Descriptor{part("z", 9, 9, notes("z", "1")...), part("a", 1, 1, notes("z", "2")...), part("a", 0, 0, notes("a", "2")...)}, Notes: notes("a", "", "z", "")})
	isNot(t, withNotes(notes("a", "1", "a", "2"))...)
	isNot(t, withNotes(notes("", "", "", ""))...)
	isNot(t, withNotes(notes("a", "", "b", "", "a", ""))...)
}

// ofLength: texts of just so many bytes, of signs of one byte, and of more.
func ofLength(n int) []string {
	out := []string{strings.Repeat("a", n)}
	for _, sign := range []string{"\u00e9", "\u20ac", "\U0001f600", "\ufffd"} {
		out = append(out, strings.Repeat("x", n%len(sign))+strings.Repeat(sign, n/len(sign)))
	}
	return out
}

// P16.1: Media, names and texts of MaxNote bytes and one more, which are bytes, not signs.
func TestLongestTexts(t *testing.T) {
	for _, n := range []int{longest - 1, longest} {
		for _, s := range ofLength(n) {
			is(t, withPart(part(s, 1, 1))...)
			is(t, withNotes(notes(s, "x"))...)
			is(t, withNotes(notes("x", s))...)
			is(t, withNotes(notes("a", s, s, ""))[:2]...)
		}
	}
	for _, n := range []int{longest + 1, longest + 2, longest + 3, longest + 4, 2 * longest, 4 * longest, 5 * longest} {
		for _, s := range ofLength(n) {
			isNot(t, withPart(part(s, 1, 1))...)
			isNot(t, withNotes(notes(s, "x"))...)
			isNot(t, withNotes(notes("x", s))...)
			isNot(t, withNotes(notes("a", "", "b", s, "c", ""))[:2]...)
		}
	}
}

// P16.1: Media, names and texts that are UTF-8 at its edges, and that aren't.
func TestTextsInUTF8(t *testing.T) {
	for _, s := range rising {
		is(t, withPart(part(s+s, 1, 1))...)
		is(t, withNotes(notes(s, s+"x"+s))...)
	}
	for _, bad := range []string{"\x80", "\xbf", "\xc0", "\xff", "\xfe", "\xc0\x80", "\xc1\xbf", "\xe0\x80\x80", "\xe0\x9f\xbf", "\xed\xa0\x80", "\xed\xbf\xbf", "\xf0\x80\x80\x80", "\xf0\x8f\xbf\xbf", "\xf4\x90\x80\x80", "\xf5\x80\x80\x80", "\xc3", "\xe2\x82", "\xf0\x9f\x98", "\xc3\x28", "\x80\x80", "\xed\xa0\xbd\xed\xb8\x80"} {
		for _, s := range []string{bad, "a" + bad, bad + "b", "\u00e9" + bad + "\u00e9", strings.Repeat("a", 100) + bad, strings.Repeat("a", longest-len(bad)) + bad} {
			isNot(t, withPart(part(s, 1, 1))...)
			isNot(t, withNotes(notes(s, ""))...)
			isNot(t, withNotes(notes("", s))...)
			isNot(t, withNotes(notes("", "", "a", s, "b", ""))[:2]...)
		}
	}
}

// P16.1: digests of 32 bytes, and of no other length.
func TestDigests(t *testing.T) {
	for _, n := range []int{0, 1, 16, 20, 28, 30, 31, 32, 33, 34, 48, 63, 64, 65, 100, 288, 1 << 16} {
		d := part("layer", 1, 5)
		for _, fill := range []byte{0, 0xab, 0xff} {
			d.Digest = bytes.Repeat([]byte{fill}, n)
			if n == digestLen {
				is(t, withPart(d)...)
			} else {
				isNot(t, withPart(d)...)
			}
		}
		d.Digest = nil
		isNot(t, withPart(d)...)
	}
}

// P16.1: sizes from 0 to 2^31 - 1.
func TestSizes(t *testing.T) {
	for _, n := range []int{0, 1, 9, 10, 27, 28, 255, 256, 65535, 65536, 1 << 24, 1<<30 - 1, 1 << 30, greatest - 1, greatest} {
		is(t, withPart(part("layer", 1, n))...)
	}
	for _, n := range []int{-1, -2, -28, -1 << 31, -1<<31 - 1, -1 << 32, -1<<32 + 5, math.MinInt, math.MinInt + 1, greatest + 1, greatest + 2, 1<<32 - 1, 1 << 32, 1<<32 + 5, 1<<53 - 1, 1 << 53, 1 << 62, math.MaxInt - 1, math.MaxInt} {
		isNot(t, withPart(part("layer", 1, n))...)
	}
}

// long: a manifest whose JSON has just so many bytes, of which sign tells: it is written with so many.
func long(t *testing.T, n int, sign string, written int) api.Manifest {
	t.Helper()
	m := some()
	for len(textOf(m)) < n-longest/2 {
		room := min(n-len(textOf(m))-200, longest-1)
		m.Parts = append(m.Parts, part(strings.Repeat(sign, min(room/written, longest/len(sign))), 7, 7))
	}
	m.Notes = append(m.Notes, api.Note{Name: "z"})
	m.Notes[len(m.Notes)-1].Text = strings.Repeat("y", n-len(textOf(m)))
	if len(textOf(m)) != n || !isManifest(m) {
		t.Fatalf("a manifest of %d bytes, not of %d", len(textOf(m)), n)
	}
	return m
}

// P16.1: of as many bytes as a text may have the JSON is told, of one more it isn't; what is counted is what is written. The bytes are there all the same.
func TestLongestJSON(t *testing.T) {
	signs := map[string]int{"a": 1, "\"": 2, "\\": 2, "\n": 6, "\u00e9": 2, "\U0001f600": 4, "/": 1, "\x7f": 1}
	for sign, written := range signs {
		for n := mostJSON - 3; n <= mostJSON; n++ {
			m := long(t, n, sign, written)
			is(t, m)
			if text, code := oci.JSON(m); len(text) != n || code != api.OK {
				t.Fatalf("JSON of %d bytes, code %d, not of %d", len(text), code, n)
			}
		}
		for _, n := range []int{mostJSON + 1, mostJSON + 2, mostJSON + 100, 2 * mostJSON, 4 * mostJSON} {
			m := long(t, n, sign, written)
			is(t, m)
			if text, code := oci.JSON(m); text != "" || code != api.ErrLimit {
				t.Fatalf("JSON of a manifest of %d bytes: %d bytes, code %d", n, len(text), code)
			}
		}
	}
}

// greatestOne: a manifest with all that there may be, each as long as it may be.
func greatestOne(sign string) api.Manifest {
	long := strings.Repeat(sign, longest)
	var list []api.Note
	for i := range mostNotes {
		list = append(list, api.Note{Name: string(rune('a'+i)) + long[1:], Text: long})
	}
	m := api.Manifest{Notes: list}
	for i := range mostParts {
		m.Parts = append(m.Parts, part(long, i, greatest-i, list...))
	}
	return m
}

// P16.1, P16.4: the greatest manifest there is.
func TestTheGreatestManifest(t *testing.T) {
	for _, sign := range []string{"a", "\x00"} {
		m := greatestOne(sign)
		want := rowOf(m)
		if text, code := oci.JSON(m); text != "" || code != api.ErrLimit || !oci.May(m) {
			t.Errorf("JSON: %d bytes, code %d", len(text), code)
		}
		b, code := oci.Bytes(m)
		if code != api.OK || !bytes.Equal(b, want) {
			t.Errorf("Bytes: %d bytes, code %d", len(b), code)
		}
		if got, code := oci.FromBytes(b); code != api.OK || !oci.Same(got, m) || !alike(got, m) {
			t.Errorf("FromBytes: code %d", code)
		}
		for _, cut := range [][]byte{b[:len(b)-1], append(b, 0), b[1:]} {
			if got, code := oci.FromBytes(cut); code != api.ErrFormat || !alike(got, api.Manifest{}) {
				t.Errorf("FromBytes of %d bytes: code %d", len(cut), code)
			}
		}
	}
}

// P16.1: of what is no manifest, and whose JSON would be too long, it is told that it is none.
func TestWhichCodeComesFirst(t *testing.T) {
	for _, n := range []int{mostJSON, mostJSON + 1, 2 * mostJSON} {
		for name, change := range map[string]func(m *api.Manifest){
			"a size":        func(m *api.Manifest) { m.Parts[len(m.Parts)-1].Size = -1 },
			"a digest":      func(m *api.Manifest) { m.Parts[0].Digest = nil },
			"a text":        func(m *api.Manifest) { m.Notes[1].Text = "\xff" },
			"a name":        func(m *api.Manifest) { m.Parts[2].Notes[1].Name = "\xff" },
			"order":         func(m *api.Manifest) { m.Notes[0].Name = "zz" },
			"too long":      func(m *api.Manifest) { m.Parts[1].Media = strings.Repeat("a", longest+1) },
			"too many":      func(m *api.Manifest) { m.Parts = append(m.Parts, manyParts(mostParts)...) },
			"notes too":     func(m *api.Manifest) { m.Notes = manyNotes(17) },
			"part's notes":  func(m *api.Manifest) { m.Parts[0].Notes = manyNotes(17) },
			"all too long":  func(m *api.Manifest) { m.Notes[0].Text = strings.Repeat("a", 4*mostJSON) },
			"two one names": func(m *api.Manifest) { m.Parts[0].Notes[1].Name = m.Parts[0].Notes[0].Name },
		} {
			m := long(t, n, "a", 1)
			change(&m)
			isNot(t, m)
			text, code := oci.JSON(m)
			if b, also := oci.Bytes(m); text != "" || code != api.ErrArg || len(b) != 0 || also != api.ErrArg {
				t.Errorf("%s: JSON: %d bytes, code %d; Bytes: %d bytes, code %d", name, len(text), code, len(b), also)
			}
		}
	}
}
