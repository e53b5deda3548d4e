package wal_test

import (
	"bytes"
	"math"
	"math/rand"
	"slices"
	"strings"
	"testing"

	"orlop/api"
	"orlop/disk"
	"orlop/wal"
)

// absent: blocks that aren't there behind a journal: the journal's own among them, and such as are there once they were wrapped.
func absent(blocks int) []int {
	out := []int{blocks, blocks + 1, blocks + walBlocks, blocks + walBlocks + 1, maxBlocks, math.MinInt, math.MinInt + 1, math.MinInt + walBlocks, math.MaxInt, math.MaxInt - 1, math.MaxInt - walBlocks, math.MaxInt - walBlocks + 1, 1 << 32, 1<<32 + 1, -1 << 32, 1 << 56}
	for n := 1; n <= walBlocks+2; n++ {
		out = append(out, -n)
	}
	return out
}

// P10.1, P10.2: a disk without a block behind the journal is ErrArg, the power being there or not, and nothing is done; else Blocks tells how many there are.
func TestDisksOfSoManyBlocks(t *testing.T) {
	for _, blocks := range []int{0, 1, 2, 40, 41, 42, 43, 44, 45, 60, 83, 84, maxBlocks - 1, maxBlocks} {
		image := drawn(int64(blocks), blocks*blockLen)
		d := loaded(t, image)
		if blocks > walBlocks {
			w := opened(t, d)
			if w.Blocks() != blocks-walBlocks || seen(t, w, d) != content(image[walBlocks*blockLen:]) {
				t.Errorf("a disk of %d blocks: %d behind the journal, or others than there were", blocks, w.Blocks())
			}
			continue
		}
		if blocks > 0 {
			d.Write(blocks-1, row(1))
		}
		for _, gone := range []bool{false, true} {
			waiting := d.Waiting()
			if w, code := wal.Open(d); w != nil || code != api.ErrArg {
				t.Errorf("a disk of %d blocks, the power gone: %v: code %d, a Wal: %v", blocks, gone, code, w != nil)
			}
			if d.Waiting() != waiting || !bytes.Equal(d.Image(), image) || d.Down() != gone {
				t.Errorf("a disk of %d blocks that isn't opened is changed", blocks)
			}
			d.Arm(1)
			d.Sync()
		}
	}
}

// P10.1: while the power is gone, ErrDown and no Wal; then the next Open does it.
func TestOpenedWhileThePowerIsGone(t *testing.T) {
	for _, blocks := range []int{43, 44, 50, maxBlocks} {
		d := disk.New(blocks)
		opened(t, d).Write(0, row(2))
		safe := d.Image()
		d.Arm(1)
		d.Sync()
		for range 3 {
			if w, code := wal.Open(d); w != nil || code != api.ErrDown {
				t.Fatalf("%d blocks: code %d, a Wal: %v", blocks, code, w != nil)
			}
			if d.Waiting() != 1 || !bytes.Equal(d.Image(), safe) {
				t.Fatalf("%d blocks: an opening that was refused does something", blocks)
			}
		}
		d.Crash([]bool{true})
		if seen(t, opened(t, d), d) != blank(blocks-walBlocks).with(change(0, 2)) {
			t.Errorf("%d blocks: other ones are seen behind the next Open", blocks)
		}
	}
}

// P10.1: to open syncs, too, whatever waits; the power going in any act of it, nothing of that comes but what survives.
func TestOpenedWhileWritesWait(t *testing.T) {
	old := content(drawn(3, 3*blockLen))
	image := filled(t, old).Image()
	for count := range 5 {
		var list []api.Change
		for i := range count {
			list = append(list, change(i*i%3, int64(10+i)))
		}
		prepare := func(d *disk.Disk) *wal.Wal {
			w := opened(t, d)
			for _, one := range list {
				w.Write(one.Block, one.Data)
			}
			return w
		}
		s := newSettler(t)
		losses(t, image, prepare, opening(t), func(l loss) {
			may := []content{old.with(list...)}
			if l.code != api.OK {
				r := reckoned{safe: old, waits: list}
				may = r.lose(l.keep)
			}
			if !slices.Contains(may, s.of(l.image).content) {
				t.Errorf("%d writes wait, act %d, keeping %v: other blocks", count, l.act, l.keep)
			}
		})
	}
}

// P10.1: journals of any bytes: what isn't whole there is forgotten, for good: the same blocks each time, as they were.
func TestJournalsOfAnyBytes(t *testing.T) {
	var journals [][]byte
	for seed := range int64(150) {
		journals = append(journals, drawn(seed, walBlocks*blockLen))
	}
	for _, x := range []byte{1, 2, 0x7f, 0x80, 0xff} {
		journals = append(journals, bytes.Repeat([]byte{x}, walBlocks*blockLen))
	}
	for count := range byte(70) { // such as tell of so many changes, by whatever number
		some := drawn(1000+int64(count), walBlocks*blockLen)
		for i := range some[:blockLen] {
			some[i] &= 3
			if i%4 == int(count)%4 {
				some[i] = 0
			}
		}
		some[0] = count
		ordered, one := bytes.Clone(some), make([]byte, walBlocks*blockLen)
		copy(ordered, []byte{count, 0, 0, 0, 0, 0, 0, 0, 1, 0, 0, 0, 2, 0, 0, 0})
		one[int(count)*151] = count + 1
		journals = append(journals, some, ordered, one)
	}
	for i, journal := range journals {
		behind := drawn(int64(i), (1+i%4)*blockLen)
		s := newSettler(t)
		if got := s.of(append(journal, behind...)); got.content != content(behind) {
			t.Errorf("journal %d: what isn't whole is laid", i)
		}
	}
}

// caught: safe bytes behind a loss of power in a commit, whose changes are whole in the journal, but not laid yet.
func caught(t *testing.T, d *disk.Disk, list ...api.Change) []byte {
	t.Helper()
	old := content(d.Image()[walBlocks*blockLen:])
	var found []byte
	losses(t, d.Image(), func(d *disk.Disk) *wal.Wal { return opened(t, d) }, func(_ *disk.Disk, w *wal.Wal) api.Code { return w.Commit(list) }, func(l loss) {
		if content(l.image[walBlocks*blockLen:]) == old && plain(t, l.image).content == old.with(list...) {
			found = l.image
		}
	})
	if found == nil {
		t.Fatal("no commit is ever whole in the journal alone")
	}
	return found
}

// P10.1: a journal whose changes are whole, with a byte turned: they are laid, all of them, or they are forgotten.
func TestJournalsWithATurnedByte(t *testing.T) {
	old := content(drawn(4, 4*blockLen))
	list := []api.Change{change(2, 5), change(0, 6), change(2, 7)}
	image := caught(t, filled(t, old), list...)
	forgotten := 0
	for at := range walBlocks * blockLen {
		turns := []byte{byte(1 + at*7%255)}
		if at < 2*blockLen { // these, where a block's number lies, make another block's of it
			turns = append(turns, 1, 2, 3)
		}
		for _, turn := range turns {
			turned := bytes.Clone(image)
			turned[at] ^= turn
			got := plain(t, turned)
			if at%97 == 0 {
				got = newSettler(t).of(turned)
			}
			if got.content == old {
				forgotten++
			} else if got.content != old.with(list...) {
				t.Fatalf("byte %d turned by %d: neither all changes nor none", at, turn)
			}
		}
	}
	if forgotten < len(list)*blockLen {
		t.Errorf("of all bytes only %d matter", forgotten)
	}
}

// P10.1: a journal with a block changed for another one of it, or for bytes 0, and with blocks about.
func TestJournalsWithAChangedBlock(t *testing.T) {
	old := content(drawn(8, 4*blockLen))
	list := []api.Change{change(1, 9), change(3, 10), change(1, 11)}
	image := caught(t, filled(t, old), list...)
	place := func(b []byte, block int) []byte { return b[block*blockLen:][:blockLen] }
	check := func(what string, i, j int, changed []byte) {
		t.Helper()
		if got := plain(t, changed).content; got != old && got != old.with(list...) {
			t.Fatalf("%s, %d, %d: neither all changes nor none", what, i, j)
		}
	}
	for i := range walBlocks {
		for j := range walBlocks + 4 {
			over := bytes.Clone(image)
			copy(place(over, i), place(image, j))
			if j >= walBlocks { // one of those behind the journal
				check("one over another", i, j, over)
				continue
			}
			check("one over another", i, j, over)
			copy(place(over, j), place(image, i))
			check("two changed about", i, j, over)
		}
		zeros := bytes.Clone(image)
		clear(place(zeros, i))
		check("zeros", i, i, zeros)
	}
}

// P10.1: a journal of a greater disk, whose changes are whole, though the first, some or the last of their blocks aren't there: none of them is laid.
func TestJournalsOfAGreaterDisk(t *testing.T) {
	list := []api.Change{change(5, 9), change(0, 10), change(2, 11), change(1, 12), change(7, 13)}
	for n := range list {
		part := slices.Concat(list[n:], list[:n])
		image := caught(t, filled(t, content(drawn(14, 8*blockLen))), part...)
		for blocks := 1; blocks <= 8; blocks++ {
			old := content(image[walBlocks*blockLen:][:blocks*blockLen])
			want := old
			if blocks == 8 {
				want = old.with(part...)
			}
			if newSettler(t).of(image[:(walBlocks+blocks)*blockLen]).content != want {
				t.Errorf("changes from %d on, %d blocks: other ones than there must be", n, blocks)
			}
		}
	}
}

// P10.1: the journal's blocks, some or all of them, put back as they were before a later commit, or in one: opened they come to the same each time, and never to a part of a commit.
func TestJournalsThatWerePutBack(t *testing.T) {
	old := content(drawn(12, 4*blockLen))
	first := []api.Change{change(0, 13), change(1, 14)}
	second := []api.Change{change(1, 15), change(2, 16), change(0, 17)}
	d := filled(t, old)
	clean := d.Image()
	inFirst := caught(t, d, first...)
	opened(t, d).Commit(first)
	behindFirst := d.Image()
	inSecond := caught(t, d, second...)
	opened(t, d).Commit(second)
	last := d.Image()
	now := old.with(first...).with(second...)
	may := []content{now, now.with(first...), now.with(second...)}
	r := rand.New(rand.NewSource(18))
	for _, from := range [][]byte{clean, inFirst, behindFirst, inSecond, make([]byte, len(clean)), drawn(19, len(clean))} {
		for n := range 2*walBlocks + 60 {
			image := bytes.Clone(last)
			if n >= 2*walBlocks { // and some of another image's, besides
				image = bytes.Clone([][]byte{inFirst, inSecond}[n%2])
				copy(image[walBlocks*blockLen:], last[walBlocks*blockLen:])
			}
			for block := range walBlocks {
				if n < walBlocks && block <= n || n < 2*walBlocks && block == n-walBlocks || n >= 2*walBlocks && r.Intn(3) == 0 {
					copy(image[block*blockLen:][:blockLen], from[block*blockLen:])
				}
			}
			if got := newSettler(t).of(image).content; !slices.Contains(may, got) {
				t.Fatalf("put back %d: a part of a commit is laid", n)
			}
		}
	}
}

// P10.2: Read, Write and Sync are the disk's, of the blocks behind the journal; of the journal's own nothing is written.
func TestReadsAndWrites(t *testing.T) {
	for _, blocks := range []int{1, 2, 7, maxBlocks - walBlocks} {
		d := disk.New(walBlocks + blocks)
		w := opened(t, d)
		safe, want := d.Image(), blank(blocks)
		for i := range min(blocks, 60) {
			block := i * 37 % blocks
			one := change(block, int64(i))
			want = want.with(one)
			if w.Write(block, one.Data) != api.OK || d.Waiting() != i+1 {
				t.Fatalf("%d blocks: write %d isn't done, or %d wait", blocks, i, d.Waiting())
			}
			if b, code := w.Read(block); code != api.OK || !bytes.Equal(b, one.Data) {
				t.Fatalf("%d blocks: block %d isn't as written", blocks, block)
			}
		}
		if seen(t, w, d) != want || !bytes.Equal(d.Image(), safe) {
			t.Errorf("%d blocks: other ones are seen, or what waits is safe", blocks)
		}
		if w.Sync() != api.OK || seen(t, w, d) != want || !bytes.Equal(d.Image(), append(safe[:walBlocks*blockLen], want...)) {
			t.Errorf("%d blocks: behind Sync others are safe", blocks)
		}
		isSafe(t, d)
		d.Arm(2)
		if w.Write(0, row(1)) != api.OK || w.Write(0, row(2)) != api.ErrDown || w.Write(0, row(3)) != api.ErrDown || w.Sync() != api.ErrDown {
			t.Errorf("%d blocks: other codes around a loss of power", blocks)
		}
		if b, code := w.Read(0); code != api.OK || !bytes.Equal(b, row(2)) || d.Waiting() != 2 {
			t.Errorf("%d blocks: while the power is gone block 0 isn't what was written last", blocks)
		}
		d.Crash([]bool{true})
		if w = opened(t, d); seen(t, w, d) != want.with(change(0, 1)) {
			t.Errorf("%d blocks: of two writes not the first one alone survived", blocks)
		}
	}
}

// refuses: that none of some calls does anything, whether the power is there, going, or gone: each is ErrArg, and no act; what waits stays, and nothing comes of it later.
func refuses(t *testing.T, blocks int, calls func(w *wal.Wal, refused func(code api.Code))) {
	t.Helper()
	old := content(drawn(20, blocks*blockLen))
	d := filled(t, old)
	w := opened(t, d)
	wait := change(blocks-1, 21)
	w.Write(wait.Block, wait.Data)
	d.Arm(1)
	for range 2 { // the second time the power is gone
		safe, waiting := d.Image(), d.Waiting()
		calls(w, func(code api.Code) {
			t.Helper()
			if code != api.ErrArg {
				t.Errorf("%d blocks, the power gone: %v: code %d", blocks, d.Down(), code)
			}
		})
		if d.Waiting() != waiting || !bytes.Equal(d.Image(), safe) || seen(t, w, d) != old.with(wait) {
			t.Errorf("%d blocks, the power gone: %v: what is refused does something", blocks, d.Down())
		}
		if gone := d.Down(); w.Sync() != api.ErrDown || !d.Down() {
			t.Errorf("%d blocks, the power gone: %v: what is refused is an act", blocks, gone)
		}
	}
	d.Crash(nil)
	if w = opened(t, d); seen(t, w, d) != old {
		t.Errorf("%d blocks: something comes of what was refused", blocks)
	}
	calls(w, func(api.Code) {})
	d.Crash(nil)
	if seen(t, opened(t, d), d) != old {
		t.Errorf("%d blocks: something comes of what was refused later on", blocks)
	}
}

// P10.2, P10.3: reads, writes and commits of blocks that there aren't.
func TestBlocksThatThereAreNot(t *testing.T) {
	for _, blocks := range []int{1, 3, 45, maxBlocks - walBlocks} {
		refuses(t, blocks, func(w *wal.Wal, refused func(api.Code)) {
			for i, block := range absent(blocks) {
				if block >= 0 && block < blocks {
					continue
				}
				b, code := w.Read(block)
				if refused(code); len(b) != 0 {
					t.Errorf("Read(%d): %d bytes", block, len(b))
				}
				refused(w.Write(block, row(22)))
				refused(w.Write(block, nil))
				refused(w.Commit([]api.Change{change(block, 23)}))
				list := make([]api.Change, i%maxTx+1)
				for j := range list {
					list[j] = change(j%blocks, int64(j))
				}
				list[i*7%len(list)].Block = block
				refused(w.Commit(list))
			}
		})
	}
}

// P10.2, P10.3: writes and commits of bytes that aren't a block's, alone and among others.
func TestBytesOfOtherLengths(t *testing.T) {
	for _, blocks := range []int{1, 5} {
		refuses(t, blocks, func(w *wal.Wal, refused func(api.Code)) {
			refused(w.Write(0, nil))
			refused(w.Commit([]api.Change{{Block: 0}}))
			lengths := []int{1000, 1 << 16, 1<<16 + blockLen}
			for n := range 3 * blockLen {
				lengths = append(lengths, n)
			}
			for _, n := range lengths {
				if n == blockLen {
					continue
				}
				b := append(make([]byte, 0, n+blockLen), drawn(24, n)...)
				refused(w.Write(n%blocks, b))
				refused(w.Commit([]api.Change{{Block: n % blocks, Data: b}}))
				list := make([]api.Change, n%maxTx+1)
				for j := range list {
					list[j] = change(j%blocks, int64(j))
				}
				list[n*7%len(list)].Data = b
				refused(w.Commit(list))
			}
		})
	}
}

// P10.3: more changes than MaxTx.
func TestTooManyChanges(t *testing.T) {
	for _, blocks := range []int{1, 41, 50, maxBlocks - walBlocks} {
		refuses(t, blocks, func(w *wal.Wal, refused func(api.Code)) {
			for _, count := range []int{maxTx + 1, maxTx + 2, walBlocks, 43, 63, 64, 80, 255, 256, 257, 296, 1000} {
				list := make([]api.Change, count)
				for i := range list {
					list[i] = change(i%blocks, int64(i))
				}
				refused(w.Commit(list))
				clear(list)
				refused(w.Commit(list))
			}
		})
	}
}

// scene: what is written and waits, and what is committed then.
type scene struct {
	name   string
	blocks int
	writes []api.Change
	list   []api.Change
}

// few: scenes of which all is tried.
func few() []scene {
	return []scene{
		{"one", 1, nil, []api.Change{change(0, 1)}},
		{"none", 2, []api.Change{change(0, 1), change(1, 2)}, nil},
		{"one of a few", 3, nil, []api.Change{change(2, 1)}},
		{"two", 3, nil, []api.Change{change(0, 1), change(1, 2)}},
		{"one twice", 2, nil, []api.Change{change(1, 1), change(1, 2)}},
		{"one twice, and back", 2, nil, []api.Change{change(1, 1), {Block: 1, Data: make([]byte, blockLen)}}},
		{"two with the same bytes", 3, nil, []api.Change{change(0, 1), change(2, 1)}},
		{"as it is", 2, nil, []api.Change{{Block: 0, Data: row(100)}}},
		{"bytes 0", 2, nil, []api.Change{{Block: 0, Data: make([]byte, blockLen)}}},
		{"all of three", 3, nil, []api.Change{change(2, 1), change(0, 2), change(1, 3)}},
		{"one for which a write waits", 2, []api.Change{change(0, 1)}, []api.Change{change(0, 2)}},
		{"one beside a write", 2, []api.Change{change(1, 1)}, []api.Change{change(0, 2)}},
		{"two among writes", 3, []api.Change{change(0, 1), change(2, 2), change(0, 3)}, []api.Change{change(0, 4), change(1, 5)}},
		{"what waits already", 2, []api.Change{change(0, 1)}, []api.Change{change(0, 1), change(1, 2)}},
	}
}

// many: scenes of which some is drawn.
func many() []scene {
	var all, forty, twice, around []api.Change
	for i := range maxTx {
		all = append(all, change(i*7%maxTx, int64(i)))
		forty = append(forty, change(1, int64(i)))
		twice = append(twice, change(i%20, int64(i)))
		around = append(around, change(i*50, int64(i)))
	}
	return []scene{
		{"five", maxTx, nil, all[:5]},
		{"seven of ten", 10, nil, []api.Change{change(9, 1), change(0, 2), change(3, 3), change(4, 4), change(5, 5), change(7, 6), change(0, 7)}},
		{"all of forty", maxTx, nil, all},
		{"one forty times", 3, nil, forty},
		{"twenty twice, among writes", 25, []api.Change{change(0, 50), change(24, 51), change(19, 52), change(0, 53), change(23, 54)}, twice},
		{"all of forty that wait", maxTx, slices.Clone(all), slices.Clone(all)[:30]},
		{"forty of a great disk", maxBlocks - walBlocks, []api.Change{change(maxBlocks-walBlocks-1, 55)}, around},
	}
}

// old: what there is ahead of a scene.
func (s scene) old() content { return content(drawn(100, s.blocks*blockLen)).with(change(0, 100)) }

func (s scene) prepare(t *testing.T) func(d *disk.Disk) *wal.Wal {
	return func(d *disk.Disk) *wal.Wal {
		w := opened(t, d)
		for _, one := range s.writes {
			if w.Write(one.Block, one.Data) != api.OK {
				t.Fatal("a write isn't done")
			}
		}
		return w
	}
}

// P10.3: the changes are there, later ones over earlier ones, and safe; so is all that was written before.
func TestCommits(t *testing.T) {
	for _, s := range append(few(), many()...) {
		d := filled(t, s.old())
		w := s.prepare(t)(d)
		want := s.old().with(s.writes...).with(s.list...)
		if code := w.Commit(s.list); code != api.OK || seen(t, w, d) != want {
			t.Fatalf("%s: code %d, or other blocks", s.name, code)
		}
		isSafe(t, d)
		if plain(t, d.Image()).content != want {
			t.Errorf("%s: opened, there are other blocks", s.name)
		}
		d.Crash(slices.Repeat([]bool{true}, 100))
		if seen(t, opened(t, d), d) != want {
			t.Errorf("%s: behind a loss of power there are other blocks", s.name)
		}
	}
}

// P10.3: all blocks of a great disk, forty by forty, and each again.
func TestCommitsOfAllBlocks(t *testing.T) {
	const blocks = maxBlocks - walBlocks
	d := disk.New(maxBlocks)
	w := opened(t, d)
	for round := range int64(2) {
		want := make([]byte, 0, blocks*blockLen)
		var list []api.Change
		for block := range blocks {
			list = append(list, change(block, int64(block)+round*blocks))
			want = append(want, list[len(list)-1].Data...)
			if len(list) < maxTx && block < blocks-1 {
				continue
			}
			if code := w.Commit(list); code != api.OK {
				t.Fatalf("up to block %d: code %d", block, code)
			}
			list = nil
		}
		isSafe(t, d)
		if seen(t, w, d) != content(want) || plain(t, d.Image()).content != content(want) {
			t.Fatal("other blocks than were committed")
		}
	}
}

// P10.3: a commit of nothing is a Sync: one act, behind which all is safe, or nothing.
func TestCommitsOfNone(t *testing.T) {
	for _, list := range [][]api.Change{nil, {}, make([]api.Change, 0, 50)} {
		for act := range 4 {
			d := disk.New(walBlocks + 2)
			w := opened(t, d)
			w.Write(0, row(1))
			w.Write(1, row(2))
			d.Arm(act)
			want := api.OK
			if act == 1 {
				want = api.ErrDown
			}
			if code := w.Commit(list); code != want || d.Down() != (act == 1) || (d.Waiting() == 0) != (act != 1) {
				t.Fatalf("armed with %d: code %d, %d writes wait", act, code, d.Waiting())
			}
			if d.Down() {
				d.Crash([]bool{false, true})
				if seen(t, opened(t, d), d) != blank(2).with(change(1, 2)) {
					t.Error("other blocks than what survived")
				}
				continue
			}
			isSafe(t, d)
			if seen(t, w, d) != blank(2).with(change(0, 1), change(1, 2)) {
				t.Error("what was written isn't there")
			}
			if act == 2 && (w.Sync() != api.ErrDown || !d.Down()) {
				t.Error("a commit of nothing is no act, or more than one")
			}
		}
	}
}

// P10.3: while the power is gone, ErrDown, and nothing of the commit is there, or comes.
func TestCommitsWhileThePowerIsGone(t *testing.T) {
	for _, s := range append(few(), many()...) {
		d := filled(t, s.old())
		w := s.prepare(t)(d)
		d.Arm(1)
		w.Sync()
		safe := d.Image()
		for range 3 {
			if code := w.Commit(s.list); code != api.ErrDown {
				t.Fatalf("%s: code %d", s.name, code)
			}
			if d.Waiting() != len(s.writes) || !bytes.Equal(d.Image(), safe) || seen(t, w, d) != s.old().with(s.writes...) {
				t.Fatalf("%s: something of it is there", s.name)
			}
		}
		d.Crash(slices.Repeat([]bool{true}, 200))
		if plain(t, d.Image()).content != s.old().with(s.writes...) {
			t.Errorf("%s: something of it comes", s.name)
		}
	}
}

// P10.3, P10.4: the power going in each act of a commit, and in each act of the openings behind it, with each choice of what survives: all changes are there, or none; all, if it answered OK.
func TestLossesInCommits(t *testing.T) {
	for _, s := range few() {
		settler := newSettler(t)
		r := reckoned{safe: s.old(), waits: s.writes, cut: s.list}
		done := s.old().with(s.writes...).with(s.list...)
		acts, all, none := 0, 0, 0
		losses(t, filled(t, s.old()).Image(), s.prepare(t), func(_ *disk.Disk, w *wal.Wal) api.Code { return w.Commit(s.list) }, func(l loss) {
			acts = l.act
			got := settler.of(l.image).content
			if l.code == api.OK && got != done {
				t.Fatalf("%s: it answered OK, but isn't done", s.name)
			}
			if l.code != api.OK && !slices.Contains(r.lose(l.keep), got) {
				t.Fatalf("%s: act %d, keeping %v: neither all changes nor none", s.name, l.act, l.keep)
			}
			if got == done {
				all++
			} else {
				none++
			}
		})
		if acts < 2 || all == 0 || none == 0 && done != s.old() {
			t.Errorf("%s: %d acts, %d losses behind which all is done, %d behind which it isn't", s.name, acts, all, none)
		}
	}
}

// P10.3, P10.4: the same of greater commits, with drawn openings.
func TestLossesInGreatCommits(t *testing.T) {
	for _, s := range many() {
		r := rand.New(rand.NewSource(30))
		want := reckoned{safe: s.old(), waits: s.writes, cut: s.list}
		done := s.old().with(s.writes...).with(s.list...)
		image := filled(t, s.old()).Image()
		check := func(l loss) {
			got := drawnOpenings(t, r, l.image, r.Intn(4)).content
			if l.code == api.OK && got != done || !slices.Contains(want.lose(l.keep), got) {
				t.Fatalf("%s: act %d, code %d, keeping %v: neither all changes nor none", s.name, l.act, l.code, l.keep)
			}
		}
		commit := func(_ *disk.Disk, w *wal.Wal) api.Code { return w.Commit(s.list) }
		if s.blocks <= 100 {
			losses(t, image, s.prepare(t), commit, check)
			continue
		}
		for range 150 { // of a great disk a few, as there is much to read
			d := loaded(t, image)
			w := s.prepare(t)(d)
			act := 1 + r.Intn(100)
			d.Arm(act)
			code := commit(d, w)
			keep := drawnKeep(r, d.Waiting())
			if r.Intn(3) == 0 {
				keep = slices.Repeat([]bool{true}, d.Waiting())
			}
			d.Crash(keep)
			check(loss{act, d.Image(), code, keep})
		}
	}
}

// holds: whether a journal has a block of these bytes.
func holds(image []byte, data []byte) bool {
	for block := range walBlocks {
		if bytes.Equal(image[block*blockLen:][:blockLen], data) {
			return true
		}
	}
	return false
}

// watch: a commit's changes, and the blocks ahead of it and behind it.
type watch struct {
	t         *testing.T
	old, done content
	list      []api.Change
}

// check: that a disk, the power being gone or not, has blocks behind the journal that aren't as they were only if all new bytes of the commit are safe in the journal, or if all of them are at their places.
func (w watch) check(d *disk.Disk) {
	w.t.Helper()
	image, changed := d.Image(), false
	for block := range d.Blocks() - walBlocks {
		b, _ := d.Read(walBlocks + block)
		changed = changed || content(b) != w.old[block*blockLen:][:blockLen]
	}
	if !changed || content(image[walBlocks*blockLen:]) == w.done {
		return
	}
	for _, one := range w.list {
		if !holds(image, one.Data) {
			w.t.Fatalf("a block is laid, though the new bytes of block %d aren't safe", one.Block)
		}
	}
}

// of: a deed behind which is looked whether that holds, while the power is still gone.
func (w watch) of(deed func(*disk.Disk, *wal.Wal) api.Code) func(*disk.Disk, *wal.Wal) api.Code {
	return func(d *disk.Disk, j *wal.Wal) api.Code {
		code := deed(d, j)
		w.check(d)
		return code
	}
}

// P10.3, P10.4: wherever the power goes in a commit, and in the openings behind it, and whatever survives: no block is laid unless all new bytes of the commit are safe.
func TestNothingIsLaidAheadOfItsBytes(t *testing.T) {
	for _, s := range append(few(), many()[:5]...) {
		old := s.old().with(s.writes...)
		w := watch{t, old, old.with(s.list...), s.list}
		r := rand.New(rand.NewSource(50))
		image := filled(t, old).Image()
		commit := w.of(func(_ *disk.Disk, j *wal.Wal) api.Code { return j.Commit(s.list) })
		open := w.of(opening(t))
		known := map[string]bool{}
		losses(t, image, func(d *disk.Disk) *wal.Wal { return opened(t, d) }, commit, func(l loss) {
			if known[string(l.image)] {
				return
			}
			known[string(l.image)] = true
			w.check(loaded(t, l.image))
			if s.blocks <= 3 {
				losses(t, l.image, nothing, open, func(l loss) { w.check(loaded(t, l.image)) })
				return
			}
			d := loaded(t, l.image)
			d.Arm(1 + r.Intn(60))
			open(d, nil)
			d.Crash(drawnKeep(r, d.Waiting()))
			w.check(d)
		})
	}
}

// P10.3, P10.4: that a commit is whole hangs on no digest: where some of its new bytes were lost it is forgotten, even if others come to be there that have the digest of what was lost. (As nobody knows such bytes, they are here the very ones that were lost.)
func TestLostBytesThatComeToBeThere(t *testing.T) {
	for _, s := range append(few(), many()[:5]...) {
		if len(s.list) == 0 || s.old().with(s.list...) == s.old() {
			continue
		}
		r := reckoned{safe: s.old(), waits: s.writes}
		all := s.old().with(s.writes...) // ahead of the commit more may be made safe than what survives by choice
		image := filled(t, s.old()).Image()
		whole, lost := caught(t, loaded(t, image), s.list...), 0
		losses(t, image, s.prepare(t), func(_ *disk.Disk, w *wal.Wal) api.Code { return w.Commit(s.list) }, func(l loss) {
			put := withBytesOf(l.image, whole, s.list)
			if bytes.Equal(put, l.image) {
				return
			}
			lost++
			if got := plain(t, put).content; l.code == api.OK || got != all && !slices.Contains(r.lose(l.keep), got) {
				t.Fatalf("%s: act %d, code %d, keeping %v: a commit is laid, though it had lost bytes", s.name, l.act, l.code, l.keep)
			}
		})
		if lost == 0 && !holds(image, s.list[0].Data) {
			t.Errorf("%s: no bytes were ever lost", s.name)
		}
	}
}

// withBytesOf: an image in whose journal the new bytes of a commit lie as they do in another one.
func withBytesOf(image, whole []byte, list []api.Change) []byte {
	out := bytes.Clone(image)
	for at := 0; at < walBlocks*blockLen; at += blockLen {
		data := whole[at:][:blockLen]
		if slices.ContainsFunc(list, func(one api.Change) bool { return bytes.Equal(one.Data, data) }) {
			copy(out[at:], data)
		}
	}
	return out
}

// P10.4: all that ever may be safe on a small disk on which some commits are done, again and again, with the power going in any act of any of them and of any opening, and any choice of what survives. Each commit makes of the blocks what they were, or what they were with its changes: so none that was forgotten comes back, whatever later ones leave in the journal.
func TestForgottenCommitsStayForgotten(t *testing.T) {
	a, b := row(31), row(32)
	zero := make([]byte, blockLen)
	commits := [][][]api.Change{
		{{{Block: 0, Data: a}, {Block: 1, Data: b}}, {{Block: 0, Data: b}, {Block: 1, Data: a}}, {{Block: 1, Data: zero}}},
		{{{Block: 0, Data: a}, {Block: 1, Data: a}}, {{Block: 0, Data: b}}, {{Block: 0, Data: zero}, {Block: 0, Data: b}, {Block: 1, Data: b}}},
		{{{Block: 0, Data: a}}, {{Block: 1, Data: a}}, {{Block: 0, Data: zero}, {Block: 1, Data: b}}},
	}
	for _, lists := range commits {
		s := newSettler(t)
		start := s.of(disk.New(walBlocks + 2).Image())
		queue, known := []settled{start}, map[string]bool{string(start.image): true}
		for len(queue) > 0 {
			from := queue[0]
			queue = queue[1:]
			for i, list := range lists {
				losses(t, from.image, func(d *disk.Disk) *wal.Wal { return opened(t, d) }, func(_ *disk.Disk, w *wal.Wal) api.Code { return w.Commit(list) }, func(l loss) {
					got := s.of(l.image)
					if got.content != from.content.with(list...) && (got.content != from.content || l.code == api.OK) {
						t.Fatalf("commit %d, act %d, code %d, keeping %v: the blocks are neither as they were nor as they were to be", i, l.act, l.code, l.keep)
					}
					if !known[string(got.image)] {
						known[string(got.image)] = true
						queue = append(queue, got)
					}
				})
			}
		}
		if len(known) < 10 {
			t.Errorf("only %d states were found", len(known))
		}
	}
}

// P10.4: what was committed, then written over and synced, stays written over: no opening does the commit again.
func TestCommitsAreNotDoneAgain(t *testing.T) {
	old := content(drawn(33, 2*blockLen))
	s := newSettler(t)
	losses(t, filled(t, old).Image(), func(d *disk.Disk) *wal.Wal { return opened(t, d) }, func(_ *disk.Disk, w *wal.Wal) api.Code {
		return w.Commit([]api.Change{change(0, 34), change(1, 35)})
	}, func(l loss) {
		d := loaded(t, s.of(l.image).image)
		before := content(d.Image()[walBlocks*blockLen:])
		w := opened(t, d)
		w.Write(0, row(36))
		if w.Sync() != api.OK || s.of(d.Image()).content != before.with(change(0, 36)) {
			t.Fatalf("act %d, keeping %v: what was written over comes back", l.act, l.keep)
		}
		w.Write(1, row(37))
		d.Crash([]bool{true})
		if s.of(d.Image()).content != before.with(change(0, 36), change(1, 37)) {
			t.Fatalf("act %d, keeping %v: what survived is written over", l.act, l.keep)
		}
	})
}

// P10.3: a commit behind a loss of power, though nobody opened the journal since, leaves no half of the one that was cut off.
func TestCommitsBehindALossOnTheSameWal(t *testing.T) {
	old := content(drawn(38, 4*blockLen))
	image := filled(t, old).Image()
	first := []api.Change{change(0, 39), change(1, 40), change(3, 44)}
	second := []api.Change{change(1, 41), change(2, 42)}
	for act := 1; ; act++ {
		d := loaded(t, image)
		w := opened(t, d)
		d.Arm(act)
		w.Commit(first)
		gone := d.Down()
		for _, keep := range choices(rand.New(rand.NewSource(43)), d.Waiting()) {
			d := loaded(t, image)
			w := opened(t, d)
			d.Arm(act)
			w.Commit(first)
			d.Crash(keep)
			if w.Commit(second) != api.OK {
				t.Fatal("the second one isn't done")
			}
			if got := plain(t, d.Image()).content; got != old.with(second...) && got != old.with(first...).with(second...) {
				t.Fatalf("act %d, keeping %v: a half of the first one", act, keep)
			}
		}
		if !gone {
			return
		}
	}
}

// P10.1 to P10.4: long scripts of all calls on small disks: behind each step the blocks are as reckoned.
func TestDrawnScripts(t *testing.T) {
	for seed := range int64(250) {
		r := rand.New(rand.NewSource(seed))
		old := content(drawn(seed, (1+r.Intn(6))*blockLen))
		d := filled(t, old)
		b := &bench{t: t, r: r, d: d, w: opened(t, d), reckoned: reckoned{safe: old}}
		for range 120 {
			b.step()
		}
	}
}

// P10.1 to P10.4: the document's example.
func TestExample(t *testing.T) {
	ones, twos := bytes.Repeat([]byte{1}, blockLen), bytes.Repeat([]byte{2}, blockLen)
	both := func(b []byte) []api.Change { return []api.Change{{Block: 0, Data: b}, {Block: 1, Data: b}} }
	old, next := blank(2).with(both(ones)...), blank(2).with(both(twos)...)
	found := map[content]int{}
	s := newSettler(t)
	losses(t, filled(t, old).Image(), func(d *disk.Disk) *wal.Wal { return opened(t, d) }, func(_ *disk.Disk, w *wal.Wal) api.Code { return w.Commit(both(twos)) }, func(l loss) {
		found[s.of(l.image).content]++
	})
	if len(found) != 2 || found[old] == 0 || found[next] == 0 {
		t.Errorf("both old %d times, both new %d times, else %d contents", found[old], found[next], len(found)-2)
	}
}

// What is handed in stays as it was, its spare room too, and isn't kept: written over behind a call it changes nothing.
func TestWhatIsHandedIn(t *testing.T) {
	const room = 100
	roomy := func(seed int64) []byte { return drawn(seed, blockLen+room)[:blockLen] }
	unchanged := func(b []byte, seed int64) {
		t.Helper()
		if !bytes.Equal(b[:cap(b)][:blockLen+room], drawn(seed, blockLen+room)) {
			t.Error("bytes that were handed in are changed")
		}
		clear(b[:cap(b)])
	}
	for act := range 15 {
		d := disk.New(walBlocks + 4)
		w := opened(t, d)
		written := roomy(44)
		w.Write(3, written)
		unchanged(written, 44)
		want := blank(4).with(api.Change{Block: 3, Data: roomy(44)})
		if seen(t, w, d) != want {
			t.Fatal("bytes that were written over behind Write are the disk's")
		}
		list := []api.Change{{Block: 0, Data: roomy(45)}, {Block: 2, Data: roomy(46)}, {Block: 0, Data: roomy(47)}, {Block: 1, Data: roomy(48)}, {Block: 9, Data: roomy(49)}}
		d.Arm(act)
		code := w.Commit(list[:4])
		for i, block := range []int{0, 2, 0, 1, 9} {
			if list[i].Block != block {
				t.Error("a list that was handed in is changed")
			}
			unchanged(list[i].Data, int64(45+i))
		}
		clear(list)
		d.Crash(slices.Repeat([]bool{true}, 20))
		all := want.with(api.Change{Block: 2, Data: roomy(46)}, api.Change{Block: 0, Data: roomy(47)}, api.Change{Block: 1, Data: roomy(48)})
		if got := seen(t, opened(t, d), d); got != all && (code == api.OK || got != want) {
			t.Errorf("armed with %d: bytes that were written over behind Commit are the disk's", act)
		}
	}
}

// What a call hands back is new memory each time.
func TestAnswersAreNewMemory(t *testing.T) {
	for _, waits := range []bool{false, true} {
		old := content(drawn(48, 3*blockLen))
		d := filled(t, old)
		w := opened(t, d)
		if waits {
			w.Write(1, []byte(old[blockLen:2*blockLen]))
		}
		for block := range 3 {
			first, _ := w.Read(block)
			second, _ := w.Read(block)
			for i := range first[:cap(first)] {
				first[:cap(first)][i] ^= 0xff
			}
			if content(second) != old[block*blockLen:][:blockLen] || seen(t, w, d) != old {
				t.Errorf("block %d: an answer shares memory with the disk, or another answer", block)
			}
		}
	}
}

// The same calls make the same safe bytes, on one disk and on another that is used meanwhile.
func TestSameCallsMakeTheSameDisk(t *testing.T) {
	for seed := range int64(30) {
		var images []string
		for range 2 {
			var each strings.Builder
			r := rand.New(rand.NewSource(100 + seed))
			old := content(drawn(seed, 3*blockLen))
			d, other := filled(t, old), filled(t, old.with(change(0, 200)))
			w := opened(t, other)
			b := &bench{t: t, r: r, d: d, w: opened(t, d), reckoned: reckoned{safe: old}}
			for i := range 40 {
				b.step()
				if w.Commit([]api.Change{change(i%3, int64(i))}) != api.OK {
					t.Fatal("another disk's power is gone")
				}
				each.Write(d.Image())
			}
			images = append(images, each.String())
		}
		if images[0] != images[1] {
			t.Errorf("script %d: other safe bytes when it is done again", seed)
		}
	}
}
