package wal_test

import (
	"bytes"
	"math/rand"
	"slices"
	"strings"
	"testing"

	"orlop/api"
	"orlop/disk"
	"orlop/wal"
)

const (
	blockLen  = 256
	walBlocks = 42
	maxBlocks = 2176
	maxTx     = 40
)

// drawn: n bytes, the same for the same seed.
func drawn(seed int64, n int) []byte {
	b := make([]byte, n)
	rand.New(rand.NewSource(seed)).Read(b)
	return b
}

// row: a block's bytes, the same for the same seed.
func row(seed int64) []byte { return drawn(seed, blockLen) }

// change: a block, and new bytes drawn from a seed.
func change(block int, seed int64) api.Change { return api.Change{Block: block, Data: row(seed)} }

// loaded: a disk of its safe bytes.
func loaded(t *testing.T, image []byte) *disk.Disk {
	t.Helper()
	d, code := disk.Load(image)
	if code != api.OK {
		t.Fatalf("an image of %d bytes: code %d", len(image), code)
	}
	return d
}

// opened: a disk's journal, behind whose opening all is safe.
func opened(t *testing.T, d *disk.Disk) *wal.Wal {
	t.Helper()
	w, code := wal.Open(d)
	if code != api.OK || w == nil {
		t.Fatalf("Open: code %d, a Wal: %v", code, w != nil)
	}
	if w.Blocks() != d.Blocks()-walBlocks {
		t.Fatalf("%d blocks on a disk of %d", w.Blocks(), d.Blocks())
	}
	isSafe(t, d)
	return w
}

// isSafe: that nothing waits, and that what is seen is safe.
func isSafe(t *testing.T, d *disk.Disk) {
	t.Helper()
	var seen []byte
	for block := range d.Blocks() {
		b, _ := d.Read(block)
		seen = append(seen, b...)
	}
	if d.Down() || d.Waiting() != 0 || !bytes.Equal(seen, d.Image()) {
		t.Fatalf("the power is gone: %v, %d writes wait, or what is seen isn't safe", d.Down(), d.Waiting())
	}
}

// content: what blocks there are behind a journal, in their order. It can be held against another one, and is a key of maps.
type content string

// seen: the content behind a journal, each block of which is the disk's.
func seen(t *testing.T, w *wal.Wal, d *disk.Disk) content {
	t.Helper()
	var all strings.Builder
	for block := range w.Blocks() {
		b, code := w.Read(block)
		same, _ := d.Read(walBlocks + block)
		if code != api.OK || !bytes.Equal(b, same) {
			t.Fatalf("block %d: %d bytes, code %d, or other ones than the disk's", block, len(b), code)
		}
		all.Write(b)
	}
	return content(all.String())
}

// with: a content with changes, later ones over earlier ones.
func (c content) with(list ...api.Change) content {
	for _, one := range list {
		c = c[:one.Block*blockLen] + content(one.Data) + c[(one.Block+1)*blockLen:]
	}
	return c
}

// blank: as many blocks of bytes 0.
func blank(blocks int) content { return content(make([]byte, blocks*blockLen)) }

// filled: a disk with a journal that is opened, and a content behind it.
func filled(t *testing.T, c content) *disk.Disk {
	t.Helper()
	d := disk.New(walBlocks + len(c)/blockLen)
	w := opened(t, d)
	for block, b := range slices.Collect(slices.Chunk([]byte(c), blockLen)) {
		if w.Write(block, b) != api.OK {
			t.Fatalf("block %d isn't written", block)
		}
	}
	if w.Sync() != api.OK || seen(t, w, d) != c {
		t.Fatal("what was written isn't seen")
	}
	return d
}

// choices: of so many writes that wait, which survive: all choices if they are few, else all, the first ones, all but one, and some that are drawn.
func choices(r *rand.Rand, waiting int) [][]bool {
	var out [][]bool
	if waiting <= 5 {
		for bits := range 1 << waiting {
			keep := make([]bool, waiting)
			for i := range keep {
				keep[i] = bits>>i&1 == 1
			}
			out = append(out, keep)
		}
		return out
	}
	for i := 0; i < waiting; i += 1 + r.Intn(5) {
		first, lost := make([]bool, waiting), slices.Repeat([]bool{true}, waiting)
		for j := range i {
			first[j] = true
		}
		lost[i] = false
		out = append(out, first, lost)
	}
	out = append(out, slices.Repeat([]bool{true}, waiting))
	for range 6 {
		out = append(out, drawnKeep(r, waiting))
	}
	return out
}

func drawnKeep(r *rand.Rand, waiting int) []bool {
	keep := make([]bool, waiting)
	for i := range keep {
		keep[i] = r.Intn(2) == 0
	}
	return keep
}

// loss: what is safe behind a loss of power in one act of a deed, or behind the whole deed, and what that answered.
type loss struct {
	act   int
	image []byte
	code  api.Code
	keep  []bool // what of the writes that waited survived
}

// losses: a deed on a disk of an image, done again and again: with the power going in each of its acts, from the first to one more than it has, each with each choice of what survives, handed on one by one. The preparation is done first, and there the power stays.
func losses(t *testing.T, image []byte, prepare func(*disk.Disk) *wal.Wal, deed func(*disk.Disk, *wal.Wal) api.Code, visit func(loss)) {
	t.Helper()
	r := rand.New(rand.NewSource(1))
	for act := 1; ; act++ {
		perform := func() (*disk.Disk, api.Code) {
			d := loaded(t, image)
			w := prepare(d)
			d.Arm(act)
			return d, deed(d, w)
		}
		d, code := perform()
		gone, waiting := d.Down(), d.Waiting()
		if gone != (code == api.ErrDown) {
			t.Fatalf("the power going in act %d: it is gone: %v, code %d", act, gone, code)
		}
		for _, keep := range choices(r, waiting) {
			d, code := perform()
			d.Crash(keep)
			visit(loss{act, d.Image(), code, keep})
		}
		if !gone {
			return
		}
	}
}

func nothing(*disk.Disk) *wal.Wal { return nil }

// opening: to open is the deed: a Wal, or none and ErrDown.
func opening(t *testing.T) func(*disk.Disk, *wal.Wal) api.Code {
	return func(d *disk.Disk, _ *wal.Wal) api.Code {
		w, code := wal.Open(d)
		if (w != nil) != (code == api.OK) || code != api.OK && code != api.ErrDown {
			t.Fatalf("Open: code %d, a Wal: %v", code, w != nil)
		}
		return code
	}
}

// settler tells what an image comes to, opened: the same whether the power stays, or goes in any act of the opening, and of the next, with any choice of what survives, and again. It remembers what it found, as images come again and again.
type settler struct {
	t     *testing.T
	known map[string]settled
}

// settled: the content behind an opening, and all safe bytes then.
type settled struct {
	content content
	image   []byte
}

func newSettler(t *testing.T) *settler { return &settler{t, map[string]settled{}} }

// plain: what an image comes to, if the power stays; opened again it is the same.
func plain(t *testing.T, image []byte) settled {
	t.Helper()
	d := loaded(t, image)
	first := seen(t, opened(t, d), d)
	safe := d.Image()
	again := loaded(t, safe)
	if second := seen(t, opened(t, again), again); second != first || seen(t, opened(t, d), d) != first {
		t.Fatal("opened again, there is another content")
	}
	return settled{first, safe}
}

// of: what an image comes to, and all that the power, going while it is opened, makes of it.
func (s *settler) of(image []byte) settled {
	s.t.Helper()
	if found, may := s.known[string(image)]; may {
		return found
	}
	want := plain(s.t, image)
	s.known[string(image)] = want
	losses(s.t, image, nothing, opening(s.t), func(l loss) {
		if got := s.of(l.image); got.content != want.content {
			s.t.Fatalf("opened behind a loss in act %d of the opening, keeping %v: another content", l.act, l.keep)
		}
	})
	return want
}

// drawnOpenings: what an image comes to, the power having gone in drawn acts of some openings, with drawn choices of what survives.
func drawnOpenings(t *testing.T, r *rand.Rand, image []byte, times int) settled {
	t.Helper()
	d := loaded(t, image)
	for range times {
		d.Arm(1 + r.Intn(1+r.Intn(90)))
		if opening(t)(d, nil) == api.OK {
			d.Arm(0)
			break
		}
		d.Crash(drawnKeep(r, d.Waiting()))
	}
	return settled{seen(t, opened(t, d), d), d.Image()}
}

// reckoned: what there is behind a journal, reckoned without one: a content that is safe, writes that wait, and the commit in which the power went.
type reckoned struct {
	safe  content
	waits []api.Change
	cut   []api.Change
	gone  bool
}

// lose: what may be safe behind a loss of power that keeps some of the writes that wait. A commit that was cut off is done, or it isn't; if it is, so is all that was written before.
func (r *reckoned) lose(keep []bool) []content {
	kept := r.safe
	for i, one := range r.waits {
		if i < len(keep) && keep[i] {
			kept = kept.with(one)
		}
	}
	if r.cut == nil {
		return []content{kept}
	}
	all := r.safe.with(r.waits...)
	return []content{kept, all, all.with(r.cut...)}
}

// bench: a disk, its journal, and what is reckoned of it.
type bench struct {
	t *testing.T
	r *rand.Rand
	d *disk.Disk
	w *wal.Wal
	reckoned
}

// told: that a deed answered as it must, the power having been there or not, and all that is seen is as reckoned.
func (b *bench) told(what string, may bool, code api.Code) {
	b.t.Helper()
	want := api.OK
	switch {
	case !may:
		want = api.ErrArg
	case b.d.Down():
		want = api.ErrDown
	}
	if code != want {
		b.t.Fatalf("%s: code %d, not %d", what, code, want)
	}
	b.gone = b.d.Down()
	if got := seen(b.t, b.w, b.d); b.cut == nil && got != b.safe.with(b.waits...) {
		b.t.Fatalf("behind %s: other blocks are seen", what)
	}
	if b.cut == nil && b.d.Waiting() != len(b.waits) {
		b.t.Fatalf("behind %s: %d writes wait, not %d", what, b.d.Waiting(), len(b.waits))
	}
}

func (b *bench) write() {
	one, may := b.drawnChange()
	code := b.w.Write(one.Block, one.Data)
	if may && !b.gone {
		b.waits = append(b.waits, one)
	}
	b.told("Write", may, code)
}

func (b *bench) sync() {
	code := b.w.Sync()
	if code == api.OK {
		b.synced()
	}
	b.told("Sync", true, code)
}

func (b *bench) synced() { b.safe, b.waits = b.safe.with(b.waits...), nil }

func (b *bench) commit() {
	var list []api.Change
	may := true
	for range []int{0, 1, 2, 3, 5, maxTx, maxTx + 1}[b.r.Intn(7)] {
		one, good := b.drawnChange()
		list = append(list, one)
		may = may && good
	}
	may = may && len(list) <= maxTx
	code := b.w.Commit(list)
	switch {
	case code == api.OK:
		b.synced()
		b.safe = b.safe.with(list...)
	case may && !b.gone && len(list) > 0:
		b.cut = list
	}
	b.told("Commit", may, code)
}

// crash: the power comes again; the journal is opened, in vain at first.
func (b *bench) crash() {
	keep := drawnKeep(b.r, max(b.d.Waiting()+b.r.Intn(5)-2, 0))
	may := b.lose(keep)
	b.d.Crash(keep)
	for range b.r.Intn(4) {
		b.d.Arm(1 + b.r.Intn(12))
		code := opening(b.t)(b.d, nil)
		b.d.Arm(0)
		if code == api.ErrDown {
			b.d.Crash(drawnKeep(b.r, b.d.Waiting()))
		}
	}
	b.w = opened(b.t, b.d)
	got := seen(b.t, b.w, b.d)
	if !slices.Contains(may, got) {
		b.t.Fatal("opened behind a loss, the blocks are neither as they were nor as they were to be")
	}
	b.reckoned = reckoned{safe: got}
}

// open: the journal is opened anew, without a loss; if the power is gone it isn't.
func (b *bench) open() {
	w, code := wal.Open(b.d)
	if code == api.OK {
		b.w = w
		b.synced()
	}
	if (w != nil) != (code == api.OK) {
		b.t.Fatalf("Open: code %d, a Wal: %v", code, w != nil)
	}
	b.told("Open", true, code)
}

// step: a call of any kind.
func (b *bench) step() {
	switch kind := b.r.Intn(20); {
	case kind < 6:
		b.write()
	case kind < 8:
		b.sync()
	case kind < 13:
		b.commit()
	case kind < 15:
		b.d.Arm(b.r.Intn(16))
	case kind < 16:
		b.open()
	default:
		if b.gone || kind == 19 {
			b.crash()
		}
	}
}

// drawnChange: mostly one that may be committed, and whether it may.
func (b *bench) drawnChange() (api.Change, bool) {
	blocks := b.w.Blocks()
	one := api.Change{Block: b.r.Intn(blocks), Data: row(b.r.Int63n(50))} // few rows, so that some come again
	if b.r.Intn(40) > 0 {
		return one, true
	}
	if b.r.Intn(2) == 0 {
		bad := absent(blocks)
		one.Block = bad[b.r.Intn(len(bad))]
	} else {
		one.Data = drawn(1, []int{0, 1, blockLen - 1, blockLen + 1}[b.r.Intn(4)])
	}
	return one, false
}
