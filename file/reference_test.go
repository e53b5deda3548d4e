package file_test

import (
	"bytes"
	"math/rand"
	"slices"
	"sort"
	"strings"
	"testing"

	"orlop/api"
	"orlop/disk"
	"orlop/file"
	"orlop/wal"
)

const (
	blockLen   = 256
	walBlocks  = 42
	metaBlocks = 32
	bytesFrom  = (walBlocks + metaBlocks) * blockLen // where in an image the blocks for bytes begin
	maxBlocks  = 2176
	maxData    = 2048
	maxFiles   = 64
	maxName    = 40
)

// drawn: n bytes, the same for the same seed.
func drawn(seed int64, n int) []byte {
	b := make([]byte, n)
	rand.New(rand.NewSource(seed)).Read(b)
	return b
}

// put: a file's new bytes, n of them, drawn from a seed.
func put(name string, seed int64, n int) api.FileChange {
	return api.FileChange{Name: name, Data: drawn(seed, n)}
}

func gone(name string) api.FileChange { return api.FileChange{Name: name, Gone: true} }

// reckoned: files, reckoned without a disk: each one's bytes.
type reckoned map[string]string

// with: the files behind changes.
func (r reckoned) with(list ...api.FileChange) reckoned {
	out := reckoned{}
	for name, data := range r {
		out[name] = data
	}
	for _, c := range list {
		if c.Gone {
			delete(out, c.Name)
		} else {
			out[c.Name] = string(c.Data)
		}
	}
	return out
}

// names: all of them, rising.
func (r reckoned) names() []string {
	var out []string
	for name := range r {
		out = append(out, name)
	}
	sort.Strings(out)
	return out
}

// blocksOf: how many blocks so many bytes take, counted one by one.
func blocksOf(n int) int {
	count := 0
	for n > 0 {
		count++
		n -= blockLen
	}
	return count
}

func (r reckoned) blocks() int {
	count := 0
	for _, data := range r {
		count += blocksOf(len(data))
	}
	return count
}

// code: what a commit of a list must answer, the power being there, with so many blocks in all.
func (r reckoned) code(list []api.FileChange, blocks int) api.Code {
	for i, c := range list {
		twice := false
		for _, other := range list[i+1:] {
			twice = twice || other.Name == c.Name
		}
		if c.Name == "" || len(c.Name) > maxName || twice {
			return api.ErrArg
		}
	}
	needed := 0
	for _, c := range list {
		if _, there := r[c.Name]; c.Gone && !there {
			return api.ErrNotFound
		}
		if !c.Gone {
			needed += blocksOf(len(c.Data))
		}
	}
	if len(r.with(list...)) > maxFiles {
		return api.ErrLimit
	}
	if needed > blocks-r.blocks() {
		return api.ErrNoSpace
	}
	return api.OK
}

// same: whether there are these files, with these bytes.
func (r reckoned) same(other reckoned) bool {
	if len(r) != len(other) {
		return false
	}
	for name, data := range r {
		if found, there := other[name]; !there || found != data {
			return false
		}
	}
	return true
}

// seen: what files are told.
func seen(t *testing.T, f *file.Files) reckoned {
	t.Helper()
	out := reckoned{}
	names := f.Names()
	for i, name := range names {
		b, code := f.Read(name)
		if code != api.OK || i > 0 && names[i-1] >= name || name == "" || len(name) > maxName {
			t.Fatalf("Read(%q): code %d, or a name that may not be, or not behind those ahead of it", name, code)
		}
		out[name] = string(b)
	}
	for _, name := range []string{"", "absent", "\x00", strings.Repeat("n", maxName), strings.Repeat("n", maxName+1), strings.Repeat("n", 1000)} {
		if _, there := out[name]; there {
			continue
		}
		if b, code := f.Read(name); code != api.ErrNotFound || len(b) != 0 {
			t.Fatalf("Read(%q), of a file that isn't there: code %d, %d bytes", name, code, len(b))
		}
	}
	return out
}

// tells: that just these files are told, of so many blocks for bytes.
func tells(t *testing.T, f *file.Files, want reckoned, blocks int) {
	t.Helper()
	got := seen(t, f)
	if !slices.Equal(f.Names(), want.names()) {
		t.Fatalf("names %q, not %q", f.Names(), want.names())
	}
	for name, data := range want {
		if got[name] != data {
			t.Fatalf("%q: %d bytes that aren't its %d", name, len(got[name]), len(data))
		}
	}
	if f.Free() != blocks-want.blocks() {
		t.Fatalf("%d blocks are free, not %d of %d", f.Free(), blocks-want.blocks(), blocks)
	}
}

// small: a disk with so many blocks for bytes.
func small(blocks int) *disk.Disk { return disk.New(walBlocks + metaBlocks + blocks) }

// blocksFor: how many blocks for bytes a disk has.
func blocksFor(d *disk.Disk) int { return min(d.Blocks()-walBlocks-metaBlocks, maxData) }

// loaded: a disk of its safe bytes.
func loaded(t *testing.T, image []byte) *disk.Disk {
	t.Helper()
	d, code := disk.Load(image)
	if code != api.OK {
		t.Fatalf("an image of %d bytes: code %d", len(image), code)
	}
	return d
}

// journal: a disk's journal, opened.
func journal(t *testing.T, d *disk.Disk) *wal.Wal {
	t.Helper()
	w, code := wal.Open(d)
	if code != api.OK {
		t.Fatalf("the journal: code %d", code)
	}
	return w
}

// opened: a disk's files, its journal opened ahead of them.
func opened(t *testing.T, d *disk.Disk) *file.Files {
	t.Helper()
	f, code := file.Open(journal(t, d))
	if code != api.OK || f == nil {
		t.Fatalf("Open: code %d, Files: %v", code, f != nil)
	}
	return f
}

// isSafe: that nothing waits, and that opened anew, of what is safe alone, just these files are told.
func isSafe(t *testing.T, d *disk.Disk, want reckoned) {
	t.Helper()
	if d.Down() || d.Waiting() != 0 {
		t.Fatalf("the power is gone: %v, or %d writes wait", d.Down(), d.Waiting())
	}
	again := loaded(t, d.Image())
	tells(t, opened(t, again), want, blocksFor(again))
}

// done: that a commit answers as is reckoned, and what files there are then, also opened anew.
func done(t *testing.T, d *disk.Disk, f *file.Files, old reckoned, list ...api.FileChange) reckoned {
	t.Helper()
	want := old.code(list, blocksFor(d))
	safe := d.Image()
	if code := f.Commit(list); code != want {
		t.Fatalf("Commit of %d changes: code %d, not %d", len(list), code, want)
	}
	if want != api.OK {
		if !bytes.Equal(d.Image(), safe) || d.Waiting() != 0 {
			t.Fatalf("Commit: code %d, but something is done", want)
		}
		tells(t, f, old, blocksFor(d))
		return old
	}
	next := old.with(list...)
	tells(t, f, next, blocksFor(d))
	isSafe(t, d, next)
	return next
}

// windows: all rows of eight bytes in some bytes, wherever they begin.
func windows(b []byte) map[[8]byte]struct{} {
	out := map[[8]byte]struct{}{}
	for i := range max(len(b)-7, 0) {
		out[[8]byte(b[i:])] = struct{}{}
	}
	return out
}

// hasNothingOf: that no eight bytes of any of the texts are in an image.
func hasNothingOf(t *testing.T, image []byte, texts ...[]byte) {
	t.Helper()
	all := windows(image)
	for i, text := range texts {
		for row := range windows(text) {
			if _, there := all[row]; there {
				t.Fatalf("bytes of text %d are on the disk", i)
			}
		}
	}
}

// choices: of so many writes that wait, which survive: all choices if they are few, else all, the first ones, all but one, and some that are drawn.
func choices(r *rand.Rand, waiting int) [][]bool {
	var out [][]bool
	if waiting <= 5 {
		for bits := range 1 << waiting {
			keep := make([]bool, waiting)
			for i := range keep {
				keep[i] = bits>>i&1 == 1
			}
			out = append(out, keep)
		}
		return out
	}
	for i := 0; i < waiting; i += 1 + r.Intn(9) {
		first, lost := make([]bool, waiting), slices.Repeat([]bool{true}, waiting)
		for j := range i {
			first[j] = true
		}
		lost[i] = false
		out = append(out, first, lost)
	}
	out = append(out, slices.Repeat([]bool{true}, waiting))
	for range 5 {
		out = append(out, drawnKeep(r, waiting))
	}
	return out
}

func drawnKeep(r *rand.Rand, waiting int) []bool {
	keep := make([]bool, waiting)
	for i := range keep {
		keep[i] = r.Intn(2) == 0
	}
	return keep
}

// loss: what is safe behind a loss of power in one act of a deed, or behind the whole deed, and what that answered.
type loss struct {
	act   int
	image []byte
	code  api.Code
	keep  []bool // what of the writes that waited survived
}

// losses: a deed on the files of an image, done again and again: with the power going in each of its acts, from the first to one more than it has, each with each choice of what survives, handed on one by one. How many acts it has is told.
func losses(t *testing.T, image []byte, deed func(*file.Files) api.Code, visit func(loss)) int {
	t.Helper()
	r := rand.New(rand.NewSource(1))
	for act := 1; ; act++ {
		d, f, code := cut(t, image, act, deed)
		gone, waiting := d.Down(), d.Waiting()
		if gone != (code == api.ErrDown) {
			t.Fatalf("the power going in act %d: it is gone: %v, code %d", act, gone, code)
		}
		if gone {
			noUse(t, d, f)
		}
		for i, keep := range choices(r, waiting) {
			if i > 0 {
				d, _, code = cut(t, image, act, deed)
			}
			d.Crash(keep)
			visit(loss{act, d.Image(), code, keep})
		}
		if !gone {
			return act - 1
		}
	}
}

// cut: a deed on the files of an image, the power going in an act.
func cut(t *testing.T, image []byte, act int, deed func(*file.Files) api.Code) (*disk.Disk, *file.Files, api.Code) {
	t.Helper()
	d := loaded(t, image)
	f := opened(t, d)
	d.Arm(act)
	return d, f, deed(f)
}

// noUse: that files that answered ErrDown answer it to every call but Names, Read and Free, whatever it is handed, and do nothing.
func noUse(t *testing.T, d *disk.Disk, f *file.Files) {
	t.Helper()
	waiting, safe, names, free := d.Waiting(), d.Image(), f.Names(), f.Free()
	for _, list := range [][]api.FileChange{nil, {put("a", 1, 1)}, {gone("a")}, {gone("absent")}, {put("", 1, 1)}, {put("a", 1, 1), put("a", 1, 1)}, {put("x", 1, maxBlocks*blockLen)}} {
		if code := f.Commit(list); code != api.ErrDown {
			t.Fatalf("behind ErrDown a commit answers %d", code)
		}
	}
	for _, name := range append(f.Names(), "", "absent", strings.Repeat("n", maxName+1)) {
		if code := f.Erase(name); code != api.ErrDown {
			t.Fatalf("behind ErrDown Erase(%q) answers %d", name, code)
		}
		if _, code := f.Read(name); code != api.OK && code != api.ErrNotFound {
			t.Fatalf("behind ErrDown Read(%q) answers %d", name, code)
		}
	}
	if d.Waiting() != waiting || !bytes.Equal(d.Image(), safe) || !slices.Equal(f.Names(), names) || f.Free() != free {
		t.Fatal("behind ErrDown a call does something")
	}
}

// reopened: the files of an image, opened anew, the power having gone in drawn acts of some openings of the journal, with drawn choices of what survives.
func reopened(t *testing.T, r *rand.Rand, image []byte) (*disk.Disk, *file.Files) {
	t.Helper()
	d := loaded(t, image)
	for range r.Intn(3) {
		d.Arm(1 + r.Intn(1+r.Intn(70)))
		if _, code := wal.Open(d); code != api.ErrDown {
			d.Arm(0)
			break
		}
		d.Crash(drawnKeep(r, d.Waiting()))
	}
	return d, opened(t, d)
}

// partly: whether files are as they were, but that of one any blocks may be 0, or that it may be gone.
func (r reckoned) partly(old reckoned, name string) bool {
	data, there := r[name]
	if !r.with(gone(name)).same(old.with(gone(name))) || there && len(data) != len(old[name]) {
		return false
	}
	for i := 0; i < len(data); i += blockLen {
		end := min(i+blockLen, len(data))
		if some := data[i:end]; some != old[name][i:end] && strings.Trim(some, "\x00") != "" {
			return false
		}
	}
	return true
}
