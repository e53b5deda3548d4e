package oci_test

import (
	"bytes"
	"encoding/binary"
	"fmt"
	"runtime"
	"slices"
	"strings"
	"testing"

	"orlop/api"
	"orlop/oci"
)

// small: manifests whose bytes are tried one by one.
func small() []api.Manifest {
	return []api.Manifest{
		{},
		{Notes: notes("a", "1", "b", "\u00e9")},
		{Parts: []api.Descriptor{part("", 1, 0)}},
		{Parts: []api.Descriptor{part("layer", 1, 5, notes("", "", "ab", "c")...), part("\u20ac", 2, greatest)}, Notes: notes("n", "t")},
		some(),
	}
}

// P16.2: of what Bytes wrote no beginning is a manifest's bytes, no end, and no such bytes with one left out, or one more, at each place.
func TestRowsOfOtherLengths(t *testing.T) {
	for _, m := range small() {
		b := rowOf(m)
		readsRow(t, b, m)
		for n := range b {
			refusesRow(t, b[:n])
			refusesRow(t, b[n+1:])
			judgedRow(t, slices.Delete(bytes.Clone(b), n, n+1))
			for _, c := range []byte{0, 1, b[n], 0xff} {
				judgedRow(t, slices.Insert(bytes.Clone(b), n, c))
			}
		}
		for c := range 256 {
			refusesRow(t, append(bytes.Clone(b), byte(c)))
		}
		for _, more := range [][]byte{b, make([]byte, 4), make([]byte, 8), make([]byte, 5000), []byte("OMF1")} {
			refusesRow(t, append(bytes.Clone(b), more...))
			refusesRow(t, append(bytes.Clone(more), b...))
		}
	}
	for n := range 64 {
		judgedRow(t, make([]byte, n))
		judgedRow(t, bytes.Repeat([]byte{0xff}, n))
		if judgedRow(t, append([]byte("OMF1"), make([]byte, n)...)) != (n == 8) {
			t.Fatalf("OMF1 and %d bytes 0", n)
		}
		refusesRow(t, append([]byte("OMF1"), bytes.Repeat([]byte{0xff}, n)...))
	}
	refusesRow(t, nil)
	refusesRow(t, []byte(textOf(some())))
}

// P16.2: each byte turned into each other one: what comes of it is as it is read here. The first four may not be others.
func TestTurnedRows(t *testing.T) {
	right, wrong := 0, 0
	for _, m := range small() {
		b := rowOf(m)
		for at := range b {
			for c := range 256 {
				turned := bytes.Clone(b)
				turned[at] = byte(c)
				if judgedRow(t, turned) {
					right++
				} else {
					wrong++
				}
				if at < 4 && byte(c) != b[at] {
					refusesRow(t, turned)
				}
			}
		}
		for _, other := range []string{"OMF0", "OMF2", "omf1", "1FMO", "OCH1", "\x00\x00\x00\x00", "{\"sc", " OMF", "OMF\x01"} {
			refusesRow(t, append([]byte(other), b[4:]...))
		}
	}
	if right < 50000 || wrong < 20000 {
		t.Errorf("%d turned rows are right, %d wrong", right, wrong)
	}
}

// numbers are written over others.
var numbers = []uint32{0, 1, 2, 3, 4, 5, 6, 15, 16, 17, 31, 32, 33, 63, 64, 65, 66, 255, 256, longest - 1, longest, longest + 1, 1 << 16, 1 << 24, 1<<31 - 1, 1 << 31, 1<<31 + 1, 1<<32 - 4, 1<<32 - 1}

// P16.2: numbers of lists, lengths and sizes that are too great or too small, the greatest ones among them, at each place of the bytes.
func TestOtherNumbers(t *testing.T) {
	right, wrong := 0, 0
	for _, m := range small() {
		b := rowOf(m)
		for at := range len(b) - 3 {
			was := binary.BigEndian.Uint32(b[at:])
			for _, n := range append([]uint32{was - 1, was + 1, was * 2, was << 8, was >> 8, was ^ 1<<31, -was}, numbers...) {
				turned := bytes.Clone(b)
				binary.BigEndian.PutUint32(turned[at:], n)
				if judgedRow(t, turned) {
					right++
				} else {
					wrong++
				}
			}
		}
	}
	if right < 3000 || wrong < 3000 {
		t.Errorf("%d rows with other numbers are right, %d wrong", right, wrong)
	}
}

// number, laidText: a number's bytes, a text's.
func number(n uint32) string { return string(binary.BigEndian.AppendUint32(nil, n)) }

func laidText(s string) string { return number(uint32(len(s))) + s }

// P16.2: sizes and numbers at their ends, in bytes that are put together by hand.
func TestNumbersAtTheirEnds(t *testing.T) {
	head, hash := "OMF1"+number(1)+laidText("m"), string(digest(3))
	for n, may := range map[uint32]bool{0: true, 1: true, 255: true, 1<<31 - 1: true, 1 << 31: false, 1<<31 + 1: false, 1<<32 - 1: false, 3 << 30: false} {
		b := head + hash + number(n) + number(0) + number(0)
		if may {
			readsRow(t, []byte(b), api.Manifest{Parts: []api.Descriptor{part("m", 3, int(n))}})
		} else {
			refusesRow(t, []byte(b))
		}
	}
	one := laidText("m") + hash + number(7) + number(0)
	for _, n := range []int{0, 1, 63, 64, 65, 66, 1000} {
		for told := range 1100 {
			b := "OMF1" + number(uint32(told)) + strings.Repeat(one, n) + number(0)
			if told != n || n > mostParts {
				if told-n < 3 && n-told < 3 || told > 1000 {
					refusesRow(t, []byte(b))
				}
				continue
			}
			var want []api.Descriptor
			for range n {
				want = append(want, part("m", 3, 7))
			}
			readsRow(t, []byte(b), api.Manifest{Parts: want})
		}
	}
	for n := range 40 {
		list := ""
		for _, one := range manyNotes(n) {
			list += laidText(one.Name) + laidText(one.Text)
		}
		for told := range uint32(40) {
			for _, form := range []string{"OMF1" + number(0) + "%s", head + hash + number(7) + "%s" + number(0)} {
				b := []byte(strings.Replace(form, "%s", number(told)+list, 1))
				if judgedRow(t, b) != (int(told) == n && n <= mostNotes) {
					t.Fatalf("%d notes, %d told", n, told)
				}
			}
		}
	}
}

// P16.2: notes out of order, or of one name, and names, texts and Media that are too long or aren't UTF-8, in bytes.
func TestRowsOfWhatIsNoManifest(t *testing.T) {
	for i, a := range rising {
		for j, b := range rising {
			for _, m := range withNotes(notes(a, "x", b, "w"))[:2] {
				if judgedRow(t, rowOf(m)) != (i < j) {
					t.Fatalf("notes named %q and %q", a, b)
				}
			}
		}
	}
	for _, bad := range []string{"\xff", "a\x80", "\xc3", "\xed\xa0\x80", "\xc0\x80", "\xf4\x90\x80\x80", "\u00e9\xe2\x82"} {
		for _, m := range slices.Concat(withPart(part(bad, 1, 1)), withNotes(notes(bad, "")), withNotes(notes("", bad)), withNotes(notes("", "x", bad, bad))) {
			refusesRow(t, rowOf(m))
		}
	}
	for _, n := range []int{longest, longest + 1, longest + 4, 2 * longest, 1 << 17} {
		for _, s := range ofLength(n) {
			for _, m := range slices.Concat(withPart(part(s, 1, 1)), withNotes(notes(s, "")), withNotes(notes("", s))) {
				if judgedRow(t, rowOf(m)) != (n == longest) {
					t.Fatalf("texts of %d bytes", n)
				}
			}
		}
	}
}

// P16.2: rows that tell of very much, and have little, or have much, and tell of little, take no room for it.
func TestRowsThatTellOfVeryMuch(t *testing.T) {
	for _, n := range []uint32{1 << 20, 1 << 28, 1<<31 - 1, 1 << 31, 1<<32 - 1} {
		for _, ahead := range []string{"OMF1", "OMF1" + number(1), "OMF1" + number(1) + laidText("m") + string(digest(1)) + number(7), "OMF1" + number(1) + laidText("m") + string(digest(1)) + number(7) + number(1), "OMF1" + number(0), "OMF1" + number(0) + number(1) + laidText("n")} {
			for _, behind := range []int{0, 1, 4, 8, 100, 1 << 20} {
				b := []byte(ahead + number(n) + strings.Repeat("\x00", behind))
				var ahead, since runtime.MemStats
				runtime.ReadMemStats(&ahead)
				m, code := oci.FromBytes(b)
				runtime.ReadMemStats(&since)
				if taken := since.TotalAlloc - ahead.TotalAlloc; code != api.ErrFormat || !alike(m, api.Manifest{}) || taken > 4<<20 {
					t.Fatalf("%.100q, and so on: code %d, %d bytes of memory are taken for it", b, code, taken)
				}
			}
		}
	}
	b := append([]byte("OMF1"), bytes.Repeat([]byte{0, 0, 0, 64}, 1<<20)...)
	refusesRow(t, b)
	refusesRow(t, bytes.Repeat([]byte("OMF1"), 1<<20))
}

// P16.4: what FromBytes reads has just those bytes: two rows that are unlike are never read as one manifest.
func TestUnlikeRowsAreUnlikeManifests(t *testing.T) {
	known := map[string]string{}
	for _, m := range small() {
		b := rowOf(m)
		for at := range b {
			for _, c := range []byte{0, 1, 'a', 0x7f, b[at] + 1, b[at]} {
				turned := bytes.Clone(b)
				turned[at] = c
				m, code := fromBytes(t, turned)
				if code != api.OK {
					continue
				}
				is := fmt.Sprintf("%q", fmt.Sprintf("%#v", trimmed(m)))
				if was, there := known[is]; there && was != string(turned) {
					t.Fatalf("%x and %x are both read as %s", was, turned, is)
				}
				known[is] = string(turned)
			}
		}
	}
	if len(known) < 500 {
		t.Errorf("%d manifests", len(known))
	}
}
