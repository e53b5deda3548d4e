package oci_test

import (
	"bytes"
	"encoding/binary"
	"fmt"
	"io"
	"math"
	"reflect"
	"slices"
	"sort"
	"strings"
	"testing"
	"unsafe"

	"orlop/api"
	"orlop/json"
	"orlop/oci"
)

const (
	digestLen = 32
	greatest  = 1<<31 - 1
	mostParts = 64
	mostNotes = 16
	longest   = 16384 // bytes of a name or a text
	mostJSON  = 65536
)

// notes: those of these names and texts, by turns.
func notes(parts ...string) []api.Note {
	var list []api.Note
	for i := 0; i < len(parts); i += 2 {
		list = append(list, api.Note{Name: parts[i], Text: parts[i+1]})
	}
	return list
}

// manyNotes: n of them, with rising names.
func manyNotes(n int) []api.Note {
	var list []api.Note
	for i := range n {
		list = append(list, api.Note{Name: fmt.Sprintf("n%02d", i), Text: fmt.Sprint("text ", i)})
	}
	return list
}

// digest: 32 bytes, all unlike.
func digest(seed int) []byte {
	b := make([]byte, digestLen)
	for i := range b {
		b[i] = byte(seed*37 + i*11)
	}
	return b
}

func part(media string, seed, size int, notes ...api.Note) api.Descriptor {
	return api.Descriptor{Media: media, Digest: digest(seed), Size: size, Notes: notes}
}

// manyParts: n of them, all unlike.
func manyParts(n int) []api.Descriptor {
	var list []api.Descriptor
	for i := range n {
		list = append(list, part(fmt.Sprint("m", i), i, i*1000))
	}
	return list
}

// some: a manifest that has all that there may be in one.
func some() api.Manifest {
	return api.Manifest{
		Parts: []api.Descriptor{part("layer", 1, 5, notes("a", "1", "b", "\"")...), part("", 2, 0), part("\u00e9\n/", 3, greatest, notes("", "", "\U00010000", "\uffff\\")...)},
		Notes: notes("epoch", "1", "keys", "AQ==", "name", "x"),
	}
}

// withNotes: manifests that have these notes, as their own and as a descriptor's, alone and beside others.
func withNotes(list []api.Note) []api.Manifest {
	last := some()
	last.Parts[2].Notes = list
	own := some()
	own.Notes = list
	return []api.Manifest{{Notes: list}, {Parts: []api.Descriptor{part("layer", 1, 5, list...)}}, last, own}
}

// withPart: manifests that have this descriptor, alone and among others.
func withPart(d api.Descriptor) []api.Manifest {
	first, last := some(), some()
	first.Parts = append([]api.Descriptor{d}, first.Parts...)
	last.Parts = append(last.Parts, d)
	return []api.Manifest{{Parts: []api.Descriptor{d}}, first, last}
}

// isManifest: whether a manifest is one: its names, sorted and each once, are as they were.
func isManifest(m api.Manifest) bool {
	right := len(m.Parts) <= mostParts && areNotes(m.Notes)
	for _, d := range m.Parts {
		right = right && isText(d.Media) && len(d.Digest) == digestLen && uint64(d.Size) <= math.MaxInt32 && areNotes(d.Notes)
	}
	return right
}

func areNotes(list []api.Note) bool {
	right := len(list) < 17
	var names [][]byte
	for _, n := range list {
		right = right && isText(n.Name) && isText(n.Text)
		names = append(names, []byte(n.Name))
	}
	rising := slices.Clone(names)
	sort.Slice(rising, func(i, j int) bool { return bytes.Compare(rising[i], rising[j]) < 0 })
	rising = slices.CompactFunc(rising, bytes.Equal)
	return right && slices.EqualFunc(rising, names, bytes.Equal)
}

// isText: what isn't UTF-8 isn't the same any more, cut into runes and put together.
func isText(s string) bool { return len(s) <= longest && string([]rune(s)) == s }

// escapes: bytes as they are written in a text.
var escapes = func() *strings.Replacer {
	pairs := []string{`"`, `\"`, `\`, `\\`}
	for c := range 32 {
		pairs = append(pairs, string(rune(c)), fmt.Sprintf(`\u%04x`, c))
	}
	return strings.NewReplacer(pairs...)
}()

func quoted(s string) string { return `"` + escapes.Replace(s) + `"` }

// textOf: a manifest's JSON.
func textOf(m api.Manifest) string {
	var layers []string
	for _, d := range m.Parts {
		layers = append(layers, fmt.Sprintf(`{"mediaType":%s,"digest":"sha256:%x","size":%d%s}`, quoted(d.Media), d.Digest, d.Size, annotations(d.Notes)))
	}
	return fmt.Sprintf(`{"schemaVersion":2,"layers":[%s]%s}`, strings.Join(layers, ","), annotations(m.Notes))
}

func annotations(list []api.Note) string {
	var members []string
	for _, n := range list {
		members = append(members, quoted(n.Name)+":"+quoted(n.Text))
	}
	if len(members) == 0 {
		return ""
	}
	return `,"annotations":{` + strings.Join(members, ",") + "}"
}

// rowOf: a manifest's bytes: its type tells how.
func rowOf(m api.Manifest) []byte {
	return laid([]byte("OMF1"), reflect.ValueOf(m))
}

func laid(out []byte, v reflect.Value) []byte {
	switch v.Kind() {
	case reflect.Int:
		return binary.BigEndian.AppendUint32(out, uint32(v.Int()))
	case reflect.String:
		return append(binary.BigEndian.AppendUint32(out, uint32(v.Len())), v.String()...)
	case reflect.Struct:
		for i := range v.NumField() {
			out = laid(out, v.Field(i))
		}
		return out
	}
	if v.Type() == reflect.TypeFor[[]byte]() {
		return append(out, v.Bytes()...)
	}
	out = binary.BigEndian.AppendUint32(out, uint32(v.Len()))
	for i := range v.Len() {
		out = laid(out, v.Index(i))
	}
	return out
}

// ofRow: the manifest whose bytes these are, and whether they are one's: they are read as a stream, up to the first thing that is wrong.
func ofRow(b []byte) (m api.Manifest, right bool) {
	defer func() {
		if err := recover(); err != nil {
			m, right = api.Manifest{}, false
		}
	}()
	in := stream{bytes.NewReader(b)}
	if string(in.row(4)) != "OMF1" {
		panic("another beginning")
	}
	for range in.number(mostParts) {
		d := api.Descriptor{Media: in.text()}
		d.Digest = in.row(digestLen)
		d.Size = in.number(greatest)
		d.Notes = in.notes()
		m.Parts = append(m.Parts, d)
	}
	m.Notes = in.notes()
	if in.Len() > 0 {
		panic("bytes behind it")
	}
	return m, true
}

type stream struct{ *bytes.Reader }

func (in stream) row(n int) []byte {
	b := make([]byte, n)
	if _, err := io.ReadFull(in, b); err != nil {
		panic(err)
	}
	return b
}

func (in stream) number(most uint32) int {
	n := binary.BigEndian.Uint32(in.row(4))
	if n > most {
		panic("too great")
	}
	return int(n)
}

func (in stream) text() string {
	s := string(in.row(in.number(longest)))
	if !isText(s) {
		panic("no text")
	}
	return s
}

func (in stream) notes() []api.Note {
	var list []api.Note
	for range in.number(mostNotes) {
		n := api.Note{Name: in.text()}
		n.Text = in.text()
		if len(list) > 0 && strings.Compare(list[len(list)-1].Name, n.Name) != -1 {
			panic("out of order")
		}
		list = append(list, n)
	}
	return list
}

// ofText: the manifest of a text, and the code: the value is gone through member by member, as they come.
func ofText(b []byte) (api.Manifest, api.Code) {
	v, code := json.Parse(b)
	if code != api.OK {
		return api.Manifest{}, code
	}
	var m api.Manifest
	right := walked(v, map[string]func(v api.Value) bool{
		"schemaVersion": func(v api.Value) bool { return v.Kind == api.Num && v.Num == 2 },
		"layers": func(v api.Value) bool {
			for _, e := range v.List {
				var d api.Descriptor
				if !partOf(e, &d) {
					return false
				}
				m.Parts = append(m.Parts, d)
			}
			return v.Kind == api.List && len(v.List) <= mostParts
		},
		"annotations": func(v api.Value) bool { return notesOf(v, &m.Notes) },
	})
	if !right {
		return api.Manifest{}, api.ErrFormat
	}
	return m, api.OK
}

// walked: whether a map has just these members, each judged right (annotations may be missing).
func walked(v api.Value, judges map[string]func(v api.Value) bool) bool {
	for _, m := range v.Map {
		judge := judges[m.Name]
		if judge == nil || !judge(m.Value) {
			return false
		}
		delete(judges, m.Name)
	}
	delete(judges, "annotations")
	return v.Kind == api.Map && len(judges) == 0
}

func partOf(v api.Value, d *api.Descriptor) bool {
	return walked(v, map[string]func(v api.Value) bool{
		"mediaType": func(v api.Value) bool {
			d.Media = v.Text
			return v.Kind == api.Text && isText(v.Text)
		},
		"digest": func(v api.Value) bool {
			_, err := fmt.Sscanf(v.Text, "sha256:%x", &d.Digest)
			return err == nil && len(d.Digest) == digestLen && v.Text == fmt.Sprintf("sha256:%x", d.Digest)
		},
		"size": func(v api.Value) bool {
			d.Size = int(v.Num)
			return v.Kind == api.Num && uint64(v.Num) <= greatest
		},
		"annotations": func(v api.Value) bool { return notesOf(v, &d.Notes) },
	})
}

func notesOf(v api.Value, list *[]api.Note) bool {
	for _, m := range v.Map {
		if m.Value.Kind != api.Text {
			return false
		}
		*list = append(*list, api.Note{Name: m.Name, Text: m.Value.Text})
	}
	return v.Kind == api.Map && len(v.Map) > 0 && areNotes(*list)
}

// trimmed: a manifest in new memory, with nil for each list without elements.
func trimmed(m api.Manifest) api.Manifest {
	out := api.Manifest{Notes: append([]api.Note(nil), m.Notes...)}
	for _, d := range m.Parts {
		d.Digest, d.Notes = append([]byte(nil), d.Digest...), append([]api.Note(nil), d.Notes...)
		out.Parts = append(out.Parts, d)
	}
	return out
}

// alike: whether manifests are, a list without elements being nil in both.
func alike(a, b api.Manifest) bool { return reflect.DeepEqual(trimmed(a), trimmed(b)) }

// roomyNotes: notes in new memory; behind them there is room, full of something.
func roomyNotes(list []api.Note) []api.Note {
	return append(append([]api.Note(nil), list...), notes("room", "x", "", "")...)[:len(list)]
}

// roomy: a manifest in new memory; behind each list there is room, full of something.
func roomy(m api.Manifest) api.Manifest {
	out := api.Manifest{Notes: roomyNotes(m.Notes)}
	for _, d := range m.Parts {
		d.Digest, d.Notes = append(append([]byte(nil), d.Digest...), "room"...)[:len(d.Digest)], roomyNotes(d.Notes)
		out.Parts = append(out.Parts, d)
	}
	out.Parts = append(out.Parts, part("room", 9, 9), api.Descriptor{})[:len(m.Parts)]
	return out
}

// whole: a manifest with the room behind its lists.
func whole(m api.Manifest) api.Manifest {
	out := api.Manifest{Parts: slices.Clone(m.Parts[:cap(m.Parts)]), Notes: m.Notes[:cap(m.Notes)]}
	for i, d := range m.Parts {
		out.Parts[i].Digest, out.Parts[i].Notes = d.Digest[:cap(d.Digest)], d.Notes[:cap(d.Notes)]
	}
	return trimmed(out)
}

// spoil: whatever is in a manifest's lists is written over, their spare room too.
func spoil(m api.Manifest) {
	for _, d := range m.Parts {
		for i := range d.Digest[:cap(d.Digest)] {
			d.Digest[:cap(d.Digest)][i] ^= 0x55
		}
		spoilNotes(d.Notes)
	}
	for i := range m.Parts[:cap(m.Parts)] {
		m.Parts[:cap(m.Parts)][i] = api.Descriptor{Media: "spoilt", Size: -1}
	}
	spoilNotes(m.Notes)
}

func spoilNotes(list []api.Note) {
	for i := range list[:cap(list)] {
		list[:cap(list)][i] = api.Note{Name: "spoilt", Text: "\xff"}
	}
}

// span is where a list lies: from a byte up to another one.
type span struct{ from, to uintptr }

func spanOf[T any](list []T) span {
	var one T
	from := uintptr(unsafe.Pointer(unsafe.SliceData(list)))
	return span{from, from + uintptr(cap(list))*unsafe.Sizeof(one)}
}

// apart: none of these manifests' lists share memory, within one or among them.
func apart(t *testing.T, manifests ...api.Manifest) {
	t.Helper()
	var all []span
	for _, m := range manifests {
		all = append(all, spanOf(m.Parts), spanOf(m.Notes))
		for _, d := range m.Parts {
			all = append(all, spanOf(d.Digest), spanOf(d.Notes))
		}
	}
	all = slices.DeleteFunc(all, func(s span) bool { return s.from == s.to })
	slices.SortFunc(all, func(a, b span) int { return int(a.from) - int(b.from) })
	for i := 1; i < len(all); i++ {
		if all[i].from < all[i-1].to {
			t.Fatalf("two lists share memory: of %d lists one lies at %v, one at %v", len(all), all[i-1], all[i])
		}
	}
}

// told: May, JSON and Bytes of a manifest are as they are reckoned here, again and again, and it isn't changed; what is told is read as it was. Whether it is one.
func told(t *testing.T, m api.Manifest) bool {
	t.Helper()
	given, kept, right := roomy(m), whole(roomy(m)), isManifest(m)
	wantText, textCode, wantRow, rowCode := "", api.ErrArg, []byte(nil), api.ErrArg
	if right {
		wantText, textCode, wantRow, rowCode = textOf(m), api.OK, rowOf(m), api.OK
		if len(wantText) > mostJSON {
			wantText, textCode = "", api.ErrLimit
		}
	}
	for range 2 {
		if got := oci.May(given); got != right {
			t.Fatalf("May(%s): %v", short(m), got)
		}
		if got, code := oci.JSON(given); got != wantText || code != textCode {
			t.Fatalf("JSON(%s): %.300q, code %d, not %.300q, code %d", short(m), got, code, wantText, textCode)
		}
		got, code := oci.Bytes(given)
		if !bytes.Equal(got, wantRow) || code != rowCode {
			t.Fatalf("Bytes(%s): %.300x, code %d, not %.300x, code %d", short(m), got, code, wantRow, rowCode)
		}
		for i := range got[:cap(got)] { // the next answer may not lie there
			got[:cap(got)][i] ^= 0x55
		}
	}
	if !alike(given, m) || !reflect.DeepEqual(whole(given), kept) {
		t.Fatalf("%s, or the room behind its lists, was changed", short(m))
	}
	if textCode == api.OK {
		reads(t, wantText, m)
	}
	if rowCode == api.OK {
		readsRow(t, wantRow, m)
	}
	return right
}

// is, isNot: whether each of these is a manifest, and all that follows of it.
func is(t *testing.T, list ...api.Manifest) {
	t.Helper()
	for _, m := range list {
		if !told(t, m) || !oci.May(m) {
			t.Fatalf("%s is no manifest", short(m))
		}
	}
}

func isNot(t *testing.T, list ...api.Manifest) {
	t.Helper()
	for _, m := range list {
		if told(t, m) || oci.May(m) {
			t.Fatalf("%s is a manifest", short(m))
		}
		want := api.ErrFormat
		if len(textOf(m)) > mostJSON {
			want = api.ErrLimit
		}
		refuses(t, textOf(m), want)
		judgedRow(t, rowOf(m))
	}
}

// fromJSON, fromBytes: what the call tells of bytes, which are handed in amid others that may not be changed, and are written over behind the call.
func fromJSON(t *testing.T, b string) (api.Manifest, api.Code) {
	t.Helper()
	return from(t, oci.FromJSON, []byte(b))
}

func fromBytes(t *testing.T, b []byte) (api.Manifest, api.Code) {
	t.Helper()
	return from(t, oci.FromBytes, b)
}

func from(t *testing.T, call func(b []byte) (api.Manifest, api.Code), b []byte) (api.Manifest, api.Code) {
	t.Helper()
	around := append(append([]byte(`[OM`), b...), `}F1]`...)
	kept := bytes.Clone(around)
	m, code := call(around[3 : 3+len(b)])
	if !bytes.Equal(around, kept) {
		t.Fatalf("%.300q: the bytes, or those beside them, were changed", b)
	}
	for i := range around {
		around[i] ^= 0x55
	}
	return m, code
}

// reads, readsRow: this manifest is told of a text, of bytes, again and again, in new memory.
func reads(t *testing.T, b string, want api.Manifest) {
	t.Helper()
	told := func() (api.Manifest, api.Code) { return fromJSON(t, b) }
	tells(t, b, told, want)
}

func readsRow(t *testing.T, b []byte, want api.Manifest) {
	t.Helper()
	told := func() (api.Manifest, api.Code) { return fromBytes(t, b) }
	tells(t, string(b), told, want)
	if again, code := oci.Bytes(want); code != api.OK || !bytes.Equal(again, b) {
		t.Fatalf("%.300x is read, and written as %.300x, code %d", b, again, code)
	}
}

func tells(t *testing.T, b string, told func() (api.Manifest, api.Code), want api.Manifest) {
	t.Helper()
	one, code := told()
	if code != api.OK || !alike(one, want) || !oci.Same(one, want) || !oci.Same(want, one) || !oci.May(one) {
		t.Fatalf("%.300q is read as %s, code %d, not as %s", b, short(one), code, short(want))
	}
	two, _ := told()
	apart(t, one, two, want)
	spoil(one)
	if three, code := told(); code != api.OK || !alike(two, want) || !alike(three, want) {
		t.Fatalf("what was read of %.300q isn't what it was", b)
	}
}

// refuses, refusesRow: nothing is told of a text, of bytes, but a code.
func refuses(t *testing.T, b string, want api.Code) {
	t.Helper()
	for range 2 {
		if m, code := fromJSON(t, b); code != want || !reflect.DeepEqual(trimmed(m), api.Manifest{}) {
			t.Fatalf("FromJSON(%.300q): %s, code %d, not %d", b, short(m), code, want)
		}
	}
}

func refusesRow(t *testing.T, b []byte) {
	t.Helper()
	for range 2 {
		if m, code := fromBytes(t, b); code != api.ErrFormat || !reflect.DeepEqual(trimmed(m), api.Manifest{}) {
			t.Fatalf("FromBytes(%.300x): %s, code %d", b, short(m), code)
		}
	}
}

// judged, judgedRow: what is told of a text, of bytes, is as it is read here; the code.
func judged(t *testing.T, b string) api.Code {
	t.Helper()
	want, code := ofText([]byte(b))
	if code != api.OK {
		refuses(t, b, code)
	} else {
		reads(t, b, want)
	}
	return code
}

func judgedRow(t *testing.T, b []byte) bool {
	t.Helper()
	want, right := ofRow(b)
	if right {
		readsRow(t, b, want)
	} else {
		refusesRow(t, b)
	}
	return right
}

// short: a manifest's beginning, to be told when something is wrong.
func short(m api.Manifest) string { return fmt.Sprintf("%.300q", fmt.Sprintf("%+v", m)) }
