package cas_test

import (
	"bytes"
	"crypto/sha256"
	"encoding/binary"
	"maps"
	"math/rand"
	"slices"
	"sort"
	"strings"
	"testing"

	"orlop/api"
	"orlop/cas"
	"orlop/crypt"
	"orlop/disk"
	"orlop/file"
	"orlop/wal"
)

const (
	sumLen    = 32
	blockLen  = 256
	bytesFrom = 42 + 32 // blocks ahead of those for bytes: the journal's, and those that tell of files
	maxFiles  = 64
	maxName   = 40
)

// digester tells a text's digest, reckoned another way than crypts do it.
type digester func(text string) string

func realDigests() digester {
	return func(text string) string {
		sum := sha256.Sum256([]byte(text))
		return string(sum[:])
	}
}

// bookDigests: a book's, whose texts lie in a list.
func bookDigests() digester {
	var texts []string
	return func(text string) string {
		at := slices.Index(texts, text)
		if at < 0 {
			at = len(texts)
			texts = append(texts, text)
		}
		return numbered(at)
	}
}

// numbered: a book's digest of the text of a number.
func numbered(number int) string {
	return "SUM!" + strings.Repeat("\x00", 20) + string(binary.BigEndian.AppendUint64(nil, uint64(number)))
}

// held is blobs, each answer of which must be that of blobs kept another way: all files' bytes lie in one map of texts, what waits in a list, in the order in which it was said. Beside its disk there is another one, on which the changes that are due are done by one Commit of the files: both must be alike.
type held struct {
	t       *testing.T
	book    bool
	crypt   crypt.Crypt
	sum     digester
	want    map[string]string
	behind  map[string]string // as want, behind the last Commit that was begun while the power was there
	d, twin *disk.Disk
	f, g    *file.Files // the disk's, and the twin's
	s       *cas.Cas
}

// each: a visit with the real crypt, and with a book; with so many blocks for bytes.
func each(t *testing.T, blocks int, visit func(t *testing.T, h *held)) {
	t.Helper()
	image := make([]byte, (bytesFrom+blocks)*blockLen)
	for _, x := range []struct {
		name  string
		crypt crypt.Crypt
		sum   digester
	}{{"real", crypt.Real(), realDigests()}, {"book", crypt.Book(), bookDigests()}} {
		t.Run(x.name, func(t *testing.T) {
			h := &held{t: t, book: x.name == "book", crypt: x.crypt, sum: x.sum, want: map[string]string{}, behind: map[string]string{}}
			h.open(image)
			visit(t, h)
		})
	}
}

// open: the files and blobs of what is safe on a disk.
func (h *held) open(image []byte) {
	h.t.Helper()
	h.d, h.f = opened(h.t, image)
	h.twin, h.g = opened(h.t, image)
	h.s = cas.New(h.f, h.crypt)
}

func opened(t *testing.T, image []byte) (*disk.Disk, *file.Files) {
	t.Helper()
	d, code := disk.Load(image)
	if code != api.OK {
		t.Fatalf("the disk: code %d", code)
	}
	w, code := wal.Open(d)
	if code != api.OK {
		t.Fatalf("the journal: code %d", code)
	}
	f, code := file.Open(w)
	if code != api.OK {
		t.Fatalf("the files: code %d", code)
	}
	return d, f
}

// blocksOf: how many blocks so many bytes take.
func blocksOf(n int) int { return (n + blockLen - 1) / blockLen }

// code: what the files must say of changes, the power being there.
func (h *held) code(list []api.FileChange) api.Code {
	count, free := len(h.want), h.d.Blocks()-bytesFrom
	for _, data := range h.want {
		free -= blocksOf(len(data))
	}
	for _, c := range list {
		if _, there := h.want[c.Name]; c.Gone {
			count--
		} else if !there {
			count++
		}
		if !c.Gone {
			free -= blocksOf(len(c.Data))
		}
		if c.Name == "" || len(c.Name) > maxName {
			return api.ErrArg
		}
	}
	switch {
	case count > maxFiles:
		return api.ErrLimit
	case free < 0:
		return api.ErrNoSpace
	}
	return api.OK
}

// due: one Commit of changes on the twin, and here of texts; its code.
func (h *held) due(list []api.FileChange) api.Code {
	h.t.Helper()
	want, down := h.code(list), h.twin.Down()
	got := h.g.Commit(list)
	if got != want && !h.twin.Down() {
		h.t.Fatalf("the files' Commit: code %d, not %d", got, want)
	}
	if !down {
		h.behind = maps.Clone(h.want)
		for _, c := range list {
			if c.Gone && want == api.OK {
				delete(h.behind, c.Name)
			} else if want == api.OK {
				h.behind[c.Name] = string(c.Data)
			}
		}
	}
	if got == api.OK {
		h.want = maps.Clone(h.behind)
	}
	return got
}

// lay: files are changed, whatever there is to say of blobs.
func (h *held) lay(list ...api.FileChange) {
	h.t.Helper()
	if code := h.due(list); code != api.OK {
		h.t.Fatalf("code %d", code)
	}
	if code := h.f.Commit(list); code != api.OK {
		h.t.Fatalf("code %d", code)
	}
	h.same()
}

func put(name, data string) api.FileChange { return api.FileChange{Name: name, Data: []byte(data)} }

func gone(name string) api.FileChange { return api.FileChange{Name: name, Gone: true} }

// same: that the files are those that are reckoned, and the disks alike.
func (h *held) same() {
	h.t.Helper()
	if names := rising(maps.Keys(h.want)); !slices.Equal(h.f.Names(), names) {
		h.t.Fatalf("files %q, not %q", h.f.Names(), names)
	}
	for name, data := range h.want {
		if b, code := h.f.Read(name); code != api.OK || string(b) != data {
			h.t.Fatalf("file %q: %q, code %d, not %q", name, b, code, data)
		}
	}
	if h.d.Down() != h.twin.Down() || h.d.Waiting() != h.twin.Waiting() || !bytes.Equal(h.d.Image(), h.twin.Image()) {
		h.t.Fatal("the disk isn't as behind one Commit of what is due, by rising names")
	}
	if list := h.list(); len(list) > 0 {
		h.has(list[0])
	}
}

func rising(names func(func(string) bool)) []string {
	list := []string{}
	for name := range names {
		list = append(list, name)
	}
	sort.Strings(list)
	return list
}

// digests: of the files whose names are a letter and 32 bytes, rising.
func (h *held) digests(letter byte) []string {
	list := []string{}
	for _, name := range rising(maps.Keys(h.want)) {
		if len(name) == 1+sumLen && name[0] == letter {
			list = append(list, name[1:])
		}
	}
	return list
}

// handed: a call is handed a copy of some bytes, with others in its spare room. It may change neither; behind it both are written over, so that memory which is kept is seen by what is asked next.
func (h *held) handed(b string, call func([]byte)) {
	h.t.Helper()
	whole := append([]byte(b), "spare room, of many bytes"...)
	kept := string(whole)
	call(whole[:len(b)])
	if string(whole) != kept {
		h.t.Fatal("what was handed in, or its spare room, was changed")
	}
	turnAll(whole)
}

// told: what was answered, as text; its memory is written over.
func told(b []byte) string {
	text := string(b)
	turnAll(b[:cap(b)])
	return text
}

// allTold: of a list; each one's memory is written over once all were read, so that shared memory is seen: then it is read again.
func (h *held) allTold(list [][]byte) []string {
	h.t.Helper()
	out := []string{}
	for _, b := range list {
		out = append(out, string(b))
	}
	for i, b := range list {
		if string(b) != out[i] {
			h.t.Fatal("two rows of a list share memory")
		}
		turnAll(b[:cap(b)])
	}
	clear(list[:cap(list)])
	return out
}

func turnAll(b []byte) {
	for i := range b {
		b[i] ^= 0xff
	}
}

func (h *held) get(digest string) api.Code {
	h.t.Helper()
	data, there := h.want["b"+digest]
	want := api.OK
	switch {
	case !there || len(digest) != sumLen:
		data, want = "", api.ErrNotFound
	case h.sum(data) != digest:
		data, want = "", api.ErrDigest
	}
	h.handed(digest, func(x []byte) {
		b, code := h.s.Get(x)
		if got := told(b); got != data || code != want {
			h.t.Fatalf("Get(%q): %q, code %d, not %q, code %d", digest, got, code, data, want)
		}
	})
	return want
}

func (h *held) has(digest string) bool {
	h.t.Helper()
	_, want := h.want["b"+digest]
	want = want && len(digest) == sumLen
	h.handed(digest, func(x []byte) {
		if got := h.s.Has(x); got != want {
			h.t.Fatalf("Has(%q): %v", digest, got)
		}
	})
	return want
}

func (h *held) list() []string {
	h.t.Helper()
	want := h.digests('b')
	if got := h.allTold(h.s.List()); !slices.Equal(got, want) {
		h.t.Fatalf("List: %q, not %q", got, want)
	}
	return want
}

func (h *held) sweep(live ...string) (int, api.Code) {
	h.t.Helper()
	list, n := []api.FileChange{}, 0
	for _, digest := range h.digests('b') {
		if !slices.Contains(live, digest) {
			list = append(list, gone("b"+digest))
			n++
		}
	}
	for _, digest := range h.digests('q') {
		list = append(list, gone("q"+digest))
	}
	want := h.due(list)
	if want != api.OK {
		n = 0
	}
	whole := make([][]byte, 0, len(live)+2)
	h.handed(strings.Join(live, ""), func(all []byte) {
		for at, i := 0, 0; i < len(live); at, i = at+len(live[i]), i+1 {
			whole = append(whole, all[at:at+len(live[i])])
		}
		got, code := h.s.Sweep(whole)
		if got != n || code != want {
			h.t.Fatalf("Sweep: %d, code %d, not %d, code %d", got, code, n, want)
		}
		for i, digest := range live {
			if string(whole[i]) != digest {
				h.t.Fatal("Sweep changes what it is handed")
			}
		}
		if whole := whole[:cap(whole)]; whole[len(live)] != nil || whole[len(live)+1] != nil {
			h.t.Fatal("Sweep changes the spare room of what it is handed")
		}
	})
	h.same()
	return n, want
}

func (h *held) fsck() ([]string, api.Code) {
	h.t.Helper()
	spoilt, list := []string{}, []api.FileChange{}
	for _, digest := range h.digests('b') {
		if h.sum(h.want["b"+digest]) != digest {
			spoilt = append(spoilt, digest)
			list = append(list, gone("b"+digest))
		}
	}
	for _, digest := range spoilt {
		list = append(list, put("q"+digest, h.want["b"+digest]))
	}
	want := h.due(list)
	if want != api.OK {
		spoilt = []string{}
	}
	answer, code := h.s.Fsck()
	if got := h.allTold(answer); !slices.Equal(got, spoilt) || code != want {
		h.t.Fatalf("Fsck: %q, code %d, not %q, code %d", got, code, spoilt, want)
	}
	h.same()
	return spoilt, want
}

// waiting is a Batch, and all that was said to it.
type waiting struct {
	h    *held
	b    *cas.Batch
	said []said
}

type said struct {
	blob, gone bool
	name, data string
}

func (h *held) begin() *waiting { return &waiting{h: h, b: h.s.Begin()} }

func (w *waiting) put(blob string) string {
	w.h.t.Helper()
	want := w.h.sum(blob)
	w.h.handed(blob, func(x []byte) {
		if got := told(w.b.Put(x)); got != want {
			w.h.t.Fatalf("Put(%q): %q, not %q", blob, got, want)
		}
	})
	w.said = append(w.said, said{blob: true, name: "b" + want, data: blob})
	return want
}

func (w *waiting) set(name, data string) {
	w.h.t.Helper()
	w.h.handed(data, func(x []byte) { w.b.Set(name, x) })
	w.said = append(w.said, said{name: name, data: data})
}

func (w *waiting) drop(name string) {
	w.b.Drop(name)
	w.said = append(w.said, said{gone: true, name: name})
}

func (w *waiting) commit() api.Code {
	w.h.t.Helper()
	want := w.h.due(w.due())
	if got := w.b.Commit(); got != want {
		w.h.t.Fatalf("Commit: code %d, not %d", got, want)
	}
	w.h.same()
	return want
}

// done: a commit that must be OK.
func (w *waiting) done() {
	w.h.t.Helper()
	if code := w.commit(); code != api.OK {
		w.h.t.Fatalf("Commit: code %d", code)
	}
}

// due: what is to be done, by rising names.
func (w *waiting) due() []api.FileChange {
	var names []string
	for _, s := range w.said {
		names = append(names, s.name)
	}
	sort.Strings(names)
	var list []api.FileChange
	for _, name := range slices.Compact(names) {
		data, there := w.h.want[name]
		s, counts := last(w.said, func(s said) bool { return s.name == name && s.blob && !(there && s.data == data) })
		if !counts {
			s, counts = last(w.said, func(s said) bool { return s.name == name && !s.blob })
		}
		if counts && (there || !s.gone) {
			list = append(list, api.FileChange{Name: name, Data: []byte(s.data), Gone: s.gone})
		}
	}
	return list
}

// last: the last thing said of which something is so.
func last(list []said, so func(said) bool) (said, bool) {
	for i := len(list) - 1; i >= 0; i-- {
		if so(list[i]) {
			return list[i], true
		}
	}
	return said{}, false
}

// holds: that just these files are there, whatever is reckoned.
func (h *held) holds(files map[string]string) {
	h.t.Helper()
	if !maps.Equal(h.want, files) {
		h.t.Fatalf("files %q, not %q", h.want, files)
	}
	h.same()
}

// asked: that a book was asked for the digests of so many texts that are unlike. (The real crypt doesn't count.)
func (h *held) asked(texts int) {
	h.t.Helper()
	got := string(h.crypt.Sum([]byte("asked only here")))
	if h.sum("asked only here"); h.book && got != numbered(texts) {
		h.t.Fatalf("the next digest is %q, not number %d", got, texts)
	}
}

// spoil: a byte of a file is turned on the disk: that of the one of all blocks with the same bytes in which the file lies.
func (h *held) spoil(name string, at int) {
	h.t.Helper()
	data, image := []byte(h.want[name]), h.d.Image()
	first := at / blockLen * blockLen
	for block := bytesFrom * blockLen; block < len(image); block += blockLen {
		if !bytes.HasPrefix(image[block:], data[first:min(len(data), first+blockLen)]) {
			continue
		}
		h.tamper(block+at-first, []byte{data[at] ^ 0x10})
		if h.want[name] != string(data) {
			return
		}
		h.tamper(block+at-first, data[at:at+1])
	}
	h.t.Fatalf("file %q isn't on the disk", name)
}

// tamper: bytes are turned on the disk where files' bytes lie; what the files are then they tell.
func (h *held) tamper(at int, b []byte) {
	h.t.Helper()
	h.d.Tamper(at, b)
	h.twin.Tamper(at, b)
	for name := range h.want {
		b, code := h.f.Read(name)
		if code != api.OK {
			h.t.Fatalf("file %q: code %d", name, code)
		}
		h.want[name] = string(b)
	}
	h.same()
}

// arm: the power goes in the n-th act from now on.
func (h *held) arm(n int) {
	h.d.Arm(n)
	h.twin.Arm(n)
}

// crash: the power comes again, and all is opened anew: the files are as they were, or as behind what was cut off. Which of the two is told.
func (h *held) crash(keep []bool) bool {
	h.t.Helper()
	h.d.Crash(keep)
	h.open(h.d.Image())
	found := map[string]string{}
	for _, name := range h.f.Names() {
		b, _ := h.f.Read(name)
		found[name] = string(b)
	}
	done := maps.Equal(found, h.behind)
	if done {
		h.want = maps.Clone(h.behind)
	}
	h.same()
	return done
}

// drawn: a text of n bytes, the same for the same seed.
func drawn(seed int64, n int) string {
	b := make([]byte, n)
	rand.New(rand.NewSource(seed)).Read(b)
	return string(b)
}
