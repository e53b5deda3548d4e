package cas_test

import (
	"fmt"
	"slices"
	"strings"
	"testing"

	"orlop/api"
	"orlop/cas"
	"orlop/crypt"
)

// P13.1: "b" and the digest, whatever that is.
func TestName(t *testing.T) {
	for _, digest := range []string{"", "\x00", "\xff", "b", drawn(1, 31), drawn(1, 32), drawn(1, 33), strings.Repeat("\x00", 32), strings.Repeat("\xff", 32), drawn(2, 1000), "\xc3\xa9é"} {
		h := &held{t: t}
		h.handed(digest, func(x []byte) {
			if got := cas.Name(x); got != "b"+digest {
				t.Errorf("Name(%q): %q", digest, got)
			}
		})
	}
	b := []byte(drawn(3, 32))
	name := cas.Name(b)
	turnAll(b)
	if cas.Name(nil) != "b" || name != "b"+drawn(3, 32) {
		t.Error("the name of no digest, or of one that was written over")
	}
}

// The chapter's examples.
func TestExamples(t *testing.T) {
	each(t, 3, func(t *testing.T, h *held) {
		b := h.s.Begin()
		digest := b.Put([]byte("x"))
		if code := b.Commit(); code != api.OK || string(digest) != h.sum("x") {
			t.Fatalf("code %d", code)
		}
		if blob, code := h.s.Get(digest); code != api.OK || string(blob) != "x" {
			t.Errorf("Get: %q, code %d", blob, code)
		}
		h.d.Tamper(bytesFrom*blockLen, []byte("y"))
		if blob, code := h.s.Get(digest); code != api.ErrDigest || len(blob) != 0 {
			t.Errorf("Get of a spoilt one: %q, code %d", blob, code)
		}
		if list, code := h.s.Fsck(); code != api.OK || len(list) != 1 || string(list[0]) != string(digest) {
			t.Errorf("Fsck: %q, code %d", list, code)
		}
		if blob, code := h.s.Get(digest); code != api.ErrNotFound || len(blob) != 0 {
			t.Errorf("Get of one that was put aside: %q, code %d", blob, code)
		}
		if got, code := h.f.Read("q" + string(digest)); code != api.OK || string(got) != "y" {
			t.Errorf("put aside: %q, code %d", got, code)
		}
	})
}

// P13.1, P13.4: blobs of many lengths, some of which aren't there: told, again and again, and by what is opened anew.
func TestGet(t *testing.T) {
	each(t, 60, func(t *testing.T, h *held) {
		b := h.begin()
		var there, absent []string
		for i, n := range []int{0, 1, 31, 32, 33, 255, 256, 257, 511, 512, 513, 3000} {
			there = append(there, b.put(drawn(int64(i), n)))
			absent = append(absent, h.sum(drawn(int64(i), n)+"more"), drawn(int64(100+i), sumLen))
			h.crypt.Sum([]byte(drawn(int64(i), n) + "more"))
		}
		for _, digest := range there {
			if h.has(digest) || h.get(digest) != api.ErrNotFound {
				t.Error("it is there while it waits")
			}
		}
		b.done()
		for range 2 {
			for _, digest := range there {
				if !h.has(digest) || h.get(digest) != api.OK || h.get(digest) != api.OK {
					t.Error("it isn't there")
				}
			}
			for _, digest := range absent {
				if h.has(digest) || h.get(digest) != api.ErrNotFound || h.get(there[0]) != api.OK {
					t.Error("it is there")
				}
			}
			h.open(h.d.Image())
		}
	})
}

// P13.1: of another length than 32 bytes there is none, nor of a digest under which there is another file, or of none.
func TestDigestsOfOtherLengths(t *testing.T) {
	each(t, 60, func(t *testing.T, h *held) {
		b := h.begin()
		digest := b.put("blob")
		for n := range maxName {
			if n != sumLen {
				b.set("b"+drawn(1, n), "blob")
			}
		}
		absent := drawn(2, sumLen)
		for _, letter := range []string{"", "q", "B", "c", "a", "bb", "\x00", "b\x00", "\xe2", "qb"} {
			b.set(letter+absent, "blob")
		}
		b.done()
		for n := range 70 {
			if h.has(drawn(1, n)) || h.get(drawn(1, n)) != api.ErrNotFound {
				t.Errorf("there is a blob under %d bytes", n)
			}
		}
		for _, other := range []string{absent, digest[1:], digest[:31], digest + "\x00", digest + digest, "b" + digest[:31], "b" + digest} {
			if h.has(other) || h.get(other) != api.ErrNotFound {
				t.Errorf("there is a blob under %q", other)
			}
		}
		if blob, code := h.s.Get(nil); code != api.ErrNotFound || len(blob) != 0 || h.s.Has(nil) {
			t.Errorf("nil: %q, code %d", blob, code)
		}
		if !slices.Equal(h.list(), []string{digest}) || h.get(digest) != api.OK {
			t.Error("the blob isn't there")
		}
	})
}

// P13.1: each byte of a file turned, bytes more, fewer, none, or another blob's: ErrDigest, and there is such a file; the others are as they were; turned back it is the blob again.
func TestSpoilt(t *testing.T) {
	each(t, 40, func(t *testing.T, h *held) {
		b := h.begin()
		text := drawn(1, 300)
		digest, other, empty := b.put(text), b.put("other"), b.put("")
		b.done()
		for at := 0; at < len(text); at += 7 {
			for _, want := range []api.Code{api.ErrDigest, api.OK} {
				h.spoil("b"+digest, at)
				if !h.has(digest) || h.get(digest) != want || h.get(other) != api.OK || h.get(empty) != api.OK {
					t.Errorf("byte %d: not code %d", at, want)
				}
			}
		}
		for _, data := range []string{"", text[1:], text[:299], text + "\x00", "\x00" + text, "other", digest, "b"} {
			h.lay(put("b"+digest, data))
			if !h.has(digest) || h.get(digest) != api.ErrDigest || len(h.list()) != 3 {
				t.Errorf("%q isn't spoilt", data)
			}
			h.lay(put("b"+empty, text), put("b"+digest, text), put("b"+other, ""))
			if h.get(digest) != api.OK || h.get(empty) != api.ErrDigest || h.get(other) != api.ErrDigest {
				t.Errorf("changed about: other codes")
			}
			h.lay(put("b"+empty, ""), put("b"+other, "other"))
		}
	})
}

// P13.1: none, one, many, rising byte by byte, whatever bytes they have, beside other files, whether they are spoilt or not.
func TestList(t *testing.T) {
	each(t, 64, func(t *testing.T, h *held) {
		if len(h.list()) != 0 {
			t.Error("a blob without a file")
		}
		for _, name := range []string{"b", "q", "a", "index", "b" + drawn(1, 31), "b" + drawn(1, 33), "q" + drawn(1, 32), "q" + drawn(1, 31), "bb", "B" + drawn(1, 32), "c" + drawn(1, 32), "\xff", drawn(1, 33), strings.Repeat("b", maxName)} {
			h.lay(put(name, name))
			if len(h.list()) != 0 {
				t.Errorf("a file %q is a blob", name)
			}
		}
		zeros, ones := strings.Repeat("\x00", 31), strings.Repeat("\xff", 31)
		want := []string{zeros + "\x00", zeros + "\x01", zeros + "\x7f", zeros + "\x80", zeros + "\xff", "\x00" + ones, "\x01" + zeros, "b" + zeros, "b" + ones, "q" + ones, "\x7f" + ones, "\x80" + zeros, "\xc3" + zeros, "\xff" + zeros, ones + "\x00", ones + "\xfe", ones + "\xff"}
		for i := range want {
			at := i * 5 % len(want)
			h.lay(put("b"+want[at], drawn(int64(i), i)))
			h.list()
		}
		if !slices.Equal(h.list(), want) {
			t.Errorf("List: %q", h.list())
		}
		for _, digest := range want {
			h.has(digest)
			h.get(digest)
		}
		h.asked(len(want))
	})
}

// What List, Get, Put and Fsck answer is new memory, each time: written over it changes nothing.
func TestAnswersAreNewMemory(t *testing.T) {
	each(t, 20, func(t *testing.T, h *held) {
		b := h.s.Begin()
		digest := b.Put([]byte("text"))
		again := b.Put([]byte("text"))
		turnAll(digest[:cap(digest)])
		if string(again) != h.sum("text") || b.Commit() != api.OK {
			t.Fatal("two digests that were told share memory")
		}
		one, _ := h.s.Get(again)
		two, _ := h.s.Get(again)
		turnAll(one[:cap(one)])
		lists := [][][]byte{h.s.List(), h.s.List()}
		turnAll(lists[0][0])
		lists[0][0] = nil
		if string(two) != "text" || string(lists[1][0]) != string(again) {
			t.Error("two answers share memory")
		}
		h.f.Commit([]api.FileChange{put("b"+string(again), "spoilt")})
		list, _ := h.s.Fsck()
		turnAll(list[0])
		if got := h.f.Names(); !slices.Equal(got, []string{"q" + string(again)}) {
			t.Errorf("files %q", got)
		}
	})
}

// P13.3: with nothing live, with all, some, the first, the last; with digests that aren't there, come twice, or have another length.
func TestSweep(t *testing.T) {
	each(t, 30, func(t *testing.T, h *held) {
		texts := []string{"one", "two", "three", "four", drawn(1, 600), ""}
		var all []string
		for _, text := range texts {
			all = append(all, h.sum(text))
			h.crypt.Sum([]byte(text))
		}
		for bits := range 1 << len(texts) {
			b := h.begin()
			var live []string
			for i, text := range texts {
				b.put(text)
				if bits>>i&1 == 1 {
					live = append(live, all[len(all)-1-i])
				}
			}
			b.done()
			switch bits % 4 {
			case 1:
				live = append(live, live...)
			case 2:
				live = append(live, drawn(int64(bits), sumLen), all[0][:31], all[1]+"\x00", "", all[2]+all[3], "b"+all[4][:31])
			case 3:
				live = append([]string{all[0][1:], "b" + all[1], "q" + all[2][1:]}, live...)
			}
			n, code := h.sweep(live...)
			if m := len(h.list()); code != api.OK || n+m != len(texts) {
				t.Fatalf("%d went, %d are there, code %d", n, m, code)
			}
			for _, digest := range h.list() {
				if h.get(digest) != api.OK {
					t.Error("a live one is another one")
				}
			}
			if n, code := h.sweep(live...); n != 0 || code != api.OK {
				t.Errorf("again: %d, code %d", n, code)
			}
		}
		if n, code := h.s.Sweep(nil); n != 6 || code != api.OK || len(h.f.Names()) != 0 {
			t.Errorf("nothing live: %d, code %d, %q", n, code, h.f.Names())
		}
	})
}

// P13.3: what was put aside goes, live or not, and doesn't count; spoilt ones are kept if they are live; files of other names stay as they are; the crypt isn't asked.
func TestSweepOfWhatWasPutAside(t *testing.T) {
	each(t, 30, func(t *testing.T, h *held) {
		others := map[string]string{"b": "1", "q": "2", "index": "3", "a": "", "b" + drawn(1, 31): "4", "b" + drawn(1, 33): "5", "q" + drawn(1, 31): "6", "q" + drawn(1, 33): "7", "c" + drawn(1, 32): "8", "Q" + drawn(1, 32): "9", drawn(1, 33): "10", "qq": "11"}
		for name, data := range others {
			h.lay(put(name, data))
		}
		x, y, z := drawn(2, 32), strings.Repeat("\xff", 32), strings.Repeat("\x00", 32)
		h.lay(put("b"+x, "spoilt"), put("b"+y, "spoilt, too"), put("q"+x, "aside"), put("q"+z, "aside"))
		if n, code := h.sweep(x, z); n != 1 || code != api.OK {
			t.Errorf("%d went, code %d", n, code)
		}
		if !slices.Equal(h.list(), []string{x}) || h.want["b"+x] != "spoilt" {
			t.Errorf("%q", h.list())
		}
		h.lay(put("q"+x, "aside"), put("q"+y, ""))
		if n, code := h.sweep(x, y); n != 0 || code != api.OK {
			t.Errorf("%d went, code %d", n, code)
		}
		if n, code := h.sweep(); n != 1 || code != api.OK {
			t.Errorf("%d went, code %d", n, code)
		}
		h.holds(others)
		h.asked(0)
	})
}

// P13.3: with no blob, none spoilt, one, many; twice in a row; behind it none is spoilt.
func TestFsck(t *testing.T) {
	each(t, 60, func(t *testing.T, h *held) {
		fsck := func(want int) {
			t.Helper()
			spoilt, code := h.fsck()
			if len(spoilt) != want || code != api.OK {
				t.Errorf("%d are spoilt, code %d, not %d", len(spoilt), code, want)
			}
			for _, digest := range spoilt {
				if h.has(digest) || h.get(digest) != api.ErrNotFound {
					t.Error("a spoilt one is there")
				}
			}
			for _, digest := range h.list() {
				if h.get(digest) != api.OK {
					t.Error("behind it one is spoilt")
				}
			}
		}
		fsck(0)
		h.lay(put("index", "i"), put("q", "q"), put("b", "b"), put("b"+drawn(1, 31), "other"), put("q"+drawn(1, 33), "other"), put("c"+drawn(1, 32), "other"))
		fsck(0)
		texts := []string{drawn(1, 100), drawn(2, 300), drawn(3, 512), drawn(4, 1), drawn(5, 700)}
		for bits := range 1 << len(texts) {
			b := h.begin()
			many := 0
			for _, text := range texts {
				b.put(text)
			}
			b.done()
			for i, text := range texts {
				if bits>>i&1 == 1 {
					many++
					h.spoil("b"+h.sum(text), bits*3%len(text))
				}
			}
			fsck(many)
			fsck(0)
		}
		h.lay(put("b"+h.sum(texts[0]), ""), put("b"+strings.Repeat("\x00", 32), drawn(9, 400)), put("b"+strings.Repeat("\xff", 32), ""))
		fsck(3)
		fsck(0)
	})
}

// P13.3: what was put aside under a digest before is overwritten, by more bytes, fewer, or none; what was under another one stays as it is.
func TestFsckOverwrites(t *testing.T) {
	each(t, 30, func(t *testing.T, h *held) {
		x, y := drawn(1, 32), drawn(2, 32)
		want := map[string]string{"q" + y: "stays", "index": "i"}
		h.lay(put("q"+y, "stays"), put("index", "i"), put("q"+x, "before"))
		for i, data := range []string{drawn(1, 700), "fewer", "", drawn(2, 256), drawn(2, 256), "last"} {
			h.lay(put("b"+x, data))
			want["q"+x] = data
			if spoilt, code := h.fsck(); len(spoilt) != 1 || code != api.OK {
				t.Errorf("%d: %q, code %d", i, spoilt, code)
			}
			h.holds(want)
		}
	})
}

// P13.3: the crypt is asked of each blob, by rising digests, once, and of nothing else: asked so, a new book finds these right; what comes behind a digest that isn't there is spoilt, as its number is another one.
func TestFsckAsksInOrder(t *testing.T) {
	for missing := -1; missing < 12; missing++ {
		each(t, 60, func(t *testing.T, h *held) {
			for i := range 12 {
				at := i * 7 % 12
				if at != missing {
					h.lay(put("b"+numbered(at), fmt.Sprint("text ", at)))
				}
				h.lay(put("q"+numbered(at+1), fmt.Sprint("aside ", at)))
			}
			h.lay(put("a", "a"), put("b"+numbered(0)[:31], "b"), put("b"+numbered(0)+"\x00", "b"), put("c"+numbered(0), "c"))
			spoilt, code := h.fsck()
			if want := (12 - missing - 1) % 12; h.book && (code != api.OK || len(spoilt) != want) {
				t.Errorf("without number %d: %d are spoilt, not %d, code %d", missing, len(spoilt), want, code)
			}
			h.asked(12 - min(missing+1, 1))
		})
	}
}

// P13.1: of a blob that isn't there the crypt isn't asked, of one that is once, so a book's numbers are these.
func TestGetAsksOnce(t *testing.T) {
	each(t, 9, func(t *testing.T, h *held) {
		h.lay(put("b"+numbered(0), "zero"), put("b"+numbered(1), "one"), put("b"+numbered(7), "seven"), put("q"+numbered(2), "two"), put("b"+numbered(2)[:31], "other"))
		for _, digest := range []string{numbered(2), numbered(3), "", numbered(2)[:31]} {
			h.get(digest)
		}
		h.has(numbered(7))
		h.list()
		got := []api.Code{h.get(numbered(0)), h.get(numbered(1)), h.get(numbered(0)), h.get(numbered(7)), h.get(numbered(1))}
		if want := []api.Code{api.OK, api.OK, api.OK, api.ErrDigest, api.OK}; h.book && !slices.Equal(got, want) {
			t.Errorf("codes %v, not %v", got, want)
		}
		h.asked(3)
	})
}

// P13.3: Sweep needs no free block, Fsck as many as the spoilt ones; else ErrNoSpace, none is told, and nothing is done. With 64 files neither has one too many.
func TestSweepAndFsckOfAFullDisk(t *testing.T) {
	each(t, 8, func(t *testing.T, h *held) {
		x, y, z := drawn(1, 32), drawn(2, 32), drawn(3, 32)
		h.lay(put("b"+x, drawn(1, 600)), put("b"+y, drawn(2, 256)), put("b"+z, ""), put("q"+y, drawn(4, 256)), put("index", drawn(3, 1)))
		for _, more := range []int{1, 256, 2 * blockLen} { // so many bytes are taken of the two blocks that are free
			h.lay(put("more", drawn(5, more)))
			if spoilt, code := h.fsck(); len(spoilt) != 0 || code != api.ErrNoSpace {
				t.Errorf("Fsck: %q, code %d", spoilt, code)
			}
			h.lay(gone("more"))
		}
		if spoilt, code := h.fsck(); len(spoilt) != 0 || code != api.ErrNoSpace { // 4 blocks are needed, 2 are free
			t.Errorf("Fsck: %q, code %d", spoilt, code)
		}
		h.lay(put("more", drawn(6, 512)))
		if n, code := h.sweep(z); n != 2 || code != api.OK {
			t.Errorf("Sweep: %d, code %d", n, code)
		}
		if spoilt, code := h.fsck(); len(spoilt) != 1 || code != api.OK {
			t.Errorf("Fsck: %q, code %d", spoilt, code)
		}
	})
	each(t, 64, func(t *testing.T, h *held) {
		for i := range 32 {
			h.lay(put("b"+drawn(int64(i), 32), "spoilt"), put(fmt.Sprint("other", i), ""))
		}
		if spoilt, code := h.fsck(); len(spoilt) != 32 || code != api.OK {
			t.Errorf("Fsck: %d, code %d", len(spoilt), code)
		}
		if n, code := h.sweep(); n != 0 || code != api.OK || len(h.want) != 32 {
			t.Errorf("Sweep: %d, code %d", n, code)
		}
	})
}

// Two of them on the same files see the same blobs; with another crypt they are spoilt.
func TestTwoOnTheSameFiles(t *testing.T) {
	each(t, 20, func(t *testing.T, h *held) {
		b := h.begin()
		digest := b.put("text")
		b.done()
		again, other := cas.New(h.f, h.crypt), cas.New(h.f, crypt.Book())
		if blob, code := again.Get([]byte(digest)); code != api.OK || string(blob) != "text" {
			t.Errorf("%q, code %d", blob, code)
		}
		other.Begin().Put([]byte("another")) // the new book's number 0
		if _, code := other.Get([]byte(digest)); code != api.ErrDigest || !other.Has([]byte(digest)) {
			t.Errorf("by another crypt: code %d", code)
		}
		if got := again.List(); len(got) != 1 || string(got[0]) != digest {
			t.Errorf("%q", got)
		}
	})
}
