package cas_test

import (
	"fmt"
	"maps"
	"slices"
	"strings"
	"testing"

	"orlop/api"
)

// P13.2: a blob waits once, however often it is put, and one digest is told of it; nothing is done ahead of the Commit.
func TestPut(t *testing.T) {
	each(t, 30, func(t *testing.T, h *held) {
		want := map[string]string{}
		for i, n := range []int{0, 1, 255, 256, 257, 1000} {
			b := h.begin()
			text := drawn(int64(i), n)
			digest := b.put(text)
			for range 3 {
				if b.put(text) != digest {
					t.Error("one blob has two digests")
				}
			}
			b.put("beside it")
			h.holds(want)
			want["b"+digest], want["b"+h.sum("beside it")] = text, "beside it"
			b.done()
			h.holds(want)
			if h.get(digest) != api.OK {
				t.Error("what was put isn't there")
			}
		}
		h.asked(7)
	})
}

// P13.2: no bytes may be nil, of a blob and of a file.
func TestNoBytes(t *testing.T) {
	each(t, 3, func(t *testing.T, h *held) {
		b := h.s.Begin()
		one, two := b.Put(nil), b.Put([]byte{})
		b.Set("nil", nil)
		b.Set("empty", []byte{})
		if code := b.Commit(); code != api.OK || string(one) != h.sum("") || string(two) != string(one) {
			t.Fatalf("code %d", code)
		}
		h.due([]api.FileChange{put("b"+string(one), ""), put("empty", ""), put("nil", "")})
		h.holds(map[string]string{"b" + string(one): "", "nil": "", "empty": ""})
		if blob, code := h.s.Get(one); code != api.OK || len(blob) != 0 {
			t.Errorf("%q, code %d", blob, code)
		}
	})
}

// P13.2: a Batch tells nobody of its blobs, and Begin, Put, Set and Drop do nothing to the files, even if there is no Commit.
func TestNothingIsDoneAheadOfTheCommit(t *testing.T) {
	each(t, 20, func(t *testing.T, h *held) {
		h.lay(put("there", "1"), put("b"+drawn(1, 32), "spoilt"))
		image := h.d.Image()
		h.arm(1)
		b := h.begin()
		digest := b.put("blob")
		b.set("new", "2")
		b.set("there", "3")
		b.drop("there")
		b.drop("b" + drawn(1, 32))
		if h.has(digest) || h.d.Down() || !slices.Equal(h.d.Image(), image) {
			t.Error("something is done")
		}
		h.holds(map[string]string{"there": "1", "b" + drawn(1, 32): "spoilt"})
		h.arm(0)
		b.done()
		h.holds(map[string]string{"b" + digest: "blob", "new": "2"})
	})
}

// P13.2: of a name the last thing said counts, Set or Drop, were there such a file or not; what goes and isn't there is no fault, whatever its name.
func TestTheLastThingSaidCounts(t *testing.T) {
	each(t, 20, func(t *testing.T, h *held) {
		deeds := []func(b *waiting){
			func(b *waiting) { b.set("f", "one") },
			func(b *waiting) { b.set("f", drawn(1, 300)) },
			func(b *waiting) { b.set("f", "") },
			func(b *waiting) { b.drop("f") },
		}
		behind := []string{"one", drawn(1, 300), "", "gone"}
		for i := range 4 * 4 * 4 * 2 {
			h.lay(put("f", "as it was"), put("beside", "stays"))
			if i%2 == 1 {
				h.lay(gone("f"))
			}
			b := h.begin()
			for _, deed := range []int{i / 2 % 4, i / 8 % 4, i / 32} {
				deeds[deed](b)
			}
			b.done()
			want := map[string]string{"f": behind[i/32], "beside": "stays"}
			if behind[i/32] == "gone" {
				delete(want, "f")
			}
			h.holds(want)
		}
		h.asked(0)
	})
}

// P13.2: what isn't there and is to go is nothing to be done, whatever its name, beside what is there.
func TestDrop(t *testing.T) {
	each(t, 20, func(t *testing.T, h *held) {
		bad := []string{"", strings.Repeat("n", maxName+1), strings.Repeat("n", 1000), "absent", "b", "q", "b" + drawn(1, 32), "q" + drawn(1, 32), "\x00"}
		h.lay(put("a", "1"), put("m", "2"), put("z", "3"))
		for _, name := range bad {
			b := h.begin()
			b.drop(name)
			b.done()
			b = h.begin()
			b.set(name, "more")
			b.drop(name)
			b.done()
			h.holds(map[string]string{"a": "1", "m": "2", "z": "3"})
		}
		b := h.begin()
		for _, name := range append(bad, "z", "a", "z") {
			b.drop(name)
		}
		b.done()
		h.holds(map[string]string{"m": "2"})
	})
}

// P13.2: a blob and a file of one name, in every order of up to three things said, that blob being there already, not at all, or spoilt.
func TestABlobAndAFileOfOneName(t *testing.T) {
	each(t, 20, func(t *testing.T, h *held) {
		text := "the blob's bytes"
		name := "b" + h.sum(text)
		h.crypt.Sum([]byte(text))
		deeds := []func(b *waiting){
			func(b *waiting) { b.put(text) },
			func(b *waiting) { b.set(name, text) },
			func(b *waiting) { b.set(name, "others") },
			func(b *waiting) { b.drop(name) },
		}
		before := []api.FileChange{gone(name), put(name, text), put(name, "spoilt"), put(name, "")}
		for i := range 4 * 4 * 4 * 4 {
			h.lay(put(name, "so that it may go"))
			h.lay(before[i%4])
			b := h.begin()
			blob, file := false, "" // what was said, by hand: the last file
			for _, deed := range []int{i / 4 % 4, i / 16 % 4, i / 64} {
				deeds[deed](b)
				blob = blob || deed == 0
				if deed > 0 {
					file = []string{"", text, "others", "gone"}[deed]
				}
			}
			b.done()
			want := map[string]string{name: file}
			if blob && (i%4 != 1 || file == "") { // it isn't there already, or it is and no file counts
				want[name] = text
			}
			if want[name] == "gone" {
				want = map[string]string{}
			}
			h.holds(want)
		}
		h.asked(1)
	})
}

// P13.2: what is there counts when it is committed, not when it is said: changes in between are seen.
func TestWhatIsThereAtTheCommitCounts(t *testing.T) {
	each(t, 20, func(t *testing.T, h *held) {
		one, two, three := h.begin(), h.begin(), h.begin()
		digest := one.put("blob")
		two.put("blob")
		three.drop("b" + digest)
		two.done()
		one.done() // it is there now
		h.holds(map[string]string{"b" + digest: "blob"})
		three.done() // and it is to go
		h.holds(map[string]string{})
		b := h.begin()
		b.put("blob")
		b.set("b"+digest, "others")
		h.lay(put("b"+digest, "blob")) // from now on the file counts
		b.done()
		h.holds(map[string]string{"b" + digest: "others"})
		b = h.begin()
		b.drop("b" + digest)
		b.drop("f")
		b.put("blob")
		h.sweep()
		h.lay(put("f", "1"))
		b.done()
		h.holds(map[string]string{"b" + digest: "blob"})
		b = h.begin()
		b.put("blob")
		h.spoil("b"+digest, 2)
		b.done() // put again
		h.holds(map[string]string{"b" + digest: "blob"})
		if h.get(digest) != api.OK {
			t.Error("it is spoilt")
		}
	})
}

// P13.2: several of them wait beside each other, each with its own.
func TestTwoBatches(t *testing.T) {
	each(t, 20, func(t *testing.T, h *held) {
		a, b := h.begin(), h.begin()
		x := a.put("x")
		b.set("f", "of b")
		a.set("f", "of a")
		y := b.put("y")
		a.drop("b" + y)
		b.drop("b" + x)
		b.done()
		h.holds(map[string]string{"b" + y: "y", "f": "of b"})
		a.done()
		h.holds(map[string]string{"b" + x: "x", "f": "of a"})
		h.begin().done()
		h.holds(map[string]string{"b" + x: "x", "f": "of a"})
	})
}

// P13.2: all that waits is done, by rising names, however it was said: so the disk is the same (as held sees).
func TestInWhateverOrder(t *testing.T) {
	images := map[bool]map[string]struct{}{}
	for _, step := range []int{1, 3, 7, 11, 19} {
		each(t, 60, func(t *testing.T, h *held) {
			for i := range 20 {
				h.sum(fmt.Sprint("blob ", i))
				h.crypt.Sum([]byte(fmt.Sprint("blob ", i)))
			}
			b, want := h.begin(), map[string]string{}
			for i := range 20 {
				at := i * step % 20
				name := string([]byte{byte(at * 13), 'f', byte(at)})
				b.set(name, drawn(int64(at), at*20))
				digest := b.put(fmt.Sprint("blob ", at))
				want[name], want["b"+digest] = drawn(int64(at), at*20), fmt.Sprint("blob ", at)
			}
			b.done()
			h.holds(want)
			if images[h.book] == nil {
				images[h.book] = map[string]struct{}{}
			}
			images[h.book][string(h.d.Image())] = struct{}{}
		})
	}
	if len(images[true]) != 1 || len(images[false]) != 1 {
		t.Errorf("%d disks with a book, %d with the real crypt", len(images[true]), len(images[false]))
	}
}

// P13.2: with each of the files' codes nothing is done.
func TestCommitsCodes(t *testing.T) {
	each(t, 4, func(t *testing.T, h *held) {
		h.lay(put("f", drawn(1, 512)), put("g", "g"))
		for _, x := range []struct {
			want api.Code
			say  func(b *waiting)
		}{
			{api.ErrArg, func(b *waiting) { b.set("", "x") }},
			{api.ErrArg, func(b *waiting) { b.set(strings.Repeat("n", maxName+1), "") }},
			{api.ErrArg, func(b *waiting) { b.set("ok", drawn(1, 5000)); b.drop("f"); b.set("", "") }},
			{api.ErrArg, func(b *waiting) { b.put("blob"); b.drop(""); b.set("", "x"); b.drop("absent") }},
			{api.ErrNoSpace, func(b *waiting) { b.put(drawn(1, 257)) }},
			{api.ErrNoSpace, func(b *waiting) { b.put("blob"); b.set("h", "h") }},
			{api.ErrNoSpace, func(b *waiting) { b.set("f", drawn(1, 512)) }}, // a file is put, be it as it was
			{api.ErrNoSpace, func(b *waiting) { b.drop("f"); b.put("blob"); b.drop("g"); b.set("h", "h") }},
			{api.ErrNoSpace, func(b *waiting) { b.set("h", drawn(2, 1<<20)) }},
		} {
			b := h.begin()
			x.say(b)
			files := maps.Clone(h.want)
			if code := b.commit(); code != x.want {
				t.Errorf("code %d, not %d", code, x.want)
			}
			h.holds(files)
		}
		b := h.begin()
		digest := b.put("blob")
		b.drop("g")
		b.done()
		b = h.begin()
		b.put("blob") // it needs no room, as it is there
		b.put("more")
		b.done()
		h.lay(put("b"+digest, ""))
		b = h.begin()
		b.put("blob")
		b.done() // it is spoilt, and put again: one block is free
		h.lay(put("b"+digest, ""))
		h.lay(put("last", "l"))
		b = h.begin()
		b.put("blob")
		if code := b.commit(); code != api.ErrNoSpace || h.get(digest) != api.ErrDigest {
			t.Errorf("code %d, and it is spoilt no more", code)
		}
	})
}

// P13.2: 64 files, and one more: ErrLimit; what goes makes room, what is there already needs none.
func TestManyFiles(t *testing.T) {
	each(t, 70, func(t *testing.T, h *held) {
		all := h.begin()
		for i := range maxFiles {
			if i%2 == 0 {
				all.put(fmt.Sprint("blob ", i))
			} else {
				all.set(fmt.Sprint("file ", i), "")
			}
		}
		digest := all.put("one more")
		if code := all.commit(); code != api.ErrLimit {
			t.Errorf("65 files: code %d", code)
		}
		h.holds(map[string]string{})
		all = h.begin()
		for i := range maxFiles {
			all.put(fmt.Sprint("blob ", i))
		}
		all.done()
		for _, room := range []bool{false, true} {
			for i := range maxFiles {
				b := h.begin()
				b.put(fmt.Sprint("blob ", i))
				if room {
					b.drop("b" + h.sum(fmt.Sprint("blob ", (i+1)%maxFiles)))
					b.set("more", "more")
				}
				b.done()
				h.holds(maps.Clone(h.want))
				b = h.begin()
				b.put("one more")
				b.put("blob 3")
				if code := b.commit(); code != api.ErrLimit || h.has(digest) {
					t.Fatalf("65 files: code %d", code)
				}
				if room {
					b = h.begin()
					b.drop("more")
					b.put(fmt.Sprint("blob ", (i+1)%maxFiles))
					b.done()
				}
			}
		}
	})
}

// P13.2, P13.3: the power being gone every Commit is ErrDown, of nothing too; Sweep tells 0 then, Fsck none; what is there is told as it was.
func TestThePowerBeingGone(t *testing.T) {
	each(t, 20, func(t *testing.T, h *held) {
		b := h.begin()
		x, y := b.put("x"), b.put("y")
		b.done()
		h.lay(put("b"+y, "spoilt"), put("q"+x, "aside"), put("f", "1"))
		files := maps.Clone(h.want)
		deeds := []func() api.Code{
			func() api.Code { return h.begin().commit() },
			func() api.Code { b := h.begin(); b.put("x"); b.drop("absent"); return b.commit() },
			func() api.Code { b := h.begin(); b.put("z"); b.set("f", "2"); return b.commit() },
			func() api.Code { n, code := h.sweep(); return code + api.Code(100*n) },
			func() api.Code { n, code := h.sweep(x, y); return code + api.Code(100*n) },
			func() api.Code { spoilt, code := h.fsck(); return code + api.Code(100*len(spoilt)) },
		}
		for i := range deeds {
			h.arm(1)
			for j := range deeds {
				if code := deeds[(i+j)%len(deeds)](); code != api.ErrDown || !h.d.Down() {
					t.Errorf("deed %d: %d", (i+j)%len(deeds), code)
				}
			}
			if h.get(x) != api.OK || h.get(y) != api.ErrDigest || h.get(drawn(1, 32)) != api.ErrNotFound || !h.has(y) || len(h.list()) != 2 {
				t.Error("what is there isn't told as it was")
			}
			h.crash(nil)
			h.holds(files)
		}
		h.sweep()
		h.arm(1)
		if _, code := h.fsck(); code != api.ErrDown { // of no blob, too
			t.Errorf("Fsck of nothing: code %d", code)
		}
		if n, code := h.sweep(); n != 0 || code != api.ErrDown {
			t.Errorf("Sweep of nothing: %d, code %d", n, code)
		}
	})
}

// What Put, Set and Drop were handed may be written over behind the call: the bytes wait as they were (as held sees, too); nor is what Put told used.
func TestABatchKeepsNoMemory(t *testing.T) {
	each(t, 20, func(t *testing.T, h *held) {
		b := h.s.Begin()
		text, data := []byte("the blob"), []byte("the file's")
		digest := b.Put(text)
		b.Set("f", data)
		turnAll(digest[:cap(digest)])
		turnAll(text)
		turnAll(data)
		if code := b.Commit(); code != api.OK {
			t.Fatalf("code %d", code)
		}
		if names, want := h.f.Names(), []string{"b" + h.sum("the blob"), "f"}; !slices.Equal(names, want) {
			t.Errorf("files %q, not %q", names, want)
		}
		blob, _ := h.s.Get([]byte(h.sum("the blob")))
		file, _ := h.f.Read("f")
		if string(blob) != "the blob" || string(file) != "the file's" {
			t.Errorf("%q, %q", blob, file)
		}
	})
}
