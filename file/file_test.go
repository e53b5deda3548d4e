package file_test

import (
	"bytes"
	"math/rand"
	"slices"
	"strings"
	"testing"

	"orlop/api"
	"orlop/disk"
	"orlop/file"
)

// names: such as may be, with whatever bytes.
func names() []string {
	out := []string{"a", "A", "ab", "b", "a\x00", "\x00", "\x00\x00", "\xff", "\xff\xff", " ", "/", "../x", "é", "\xc3", "a\xff", "a\x00\x01", strings.Repeat("n", maxName), strings.Repeat("\x00", maxName), strings.Repeat("\xff", maxName), strings.Repeat("n", maxName-1), strings.Repeat("n", maxName-1) + "o"}
	for n := 1; n <= maxName; n += 5 {
		out = append(out, string(drawn(int64(n), n)))
	}
	return out
}

// P11.2, P11.3: names of 1 to 40 bytes, whatever they are: one by one, all in one commit, and in the other order; told rising.
func TestNames(t *testing.T) {
	for _, step := range []int{1, 3, 1000} {
		d := small(maxFiles)
		f, want := opened(t, d), reckoned{}
		var list []api.FileChange
		for i, name := range names() {
			list = append(list, put(name, int64(i), i))
			if len(list) == step {
				want = done(t, d, f, want, list...)
				list = nil
			}
		}
		want = done(t, d, f, want, list...)
		for i, name := range want.names() {
			if i%2 == 0 {
				want = done(t, d, f, want, gone(name))
				continue
			}
			if code := f.Erase(name); code != api.OK {
				t.Fatalf("Erase(%q): code %d", name, code)
			}
			want = want.with(gone(name))
			tells(t, f, want, maxFiles)
		}
	}
	var list []api.FileChange
	for i, name := range names() {
		list = append(list, put(name, int64(i), i))
	}
	slices.Reverse(list)
	d := small(maxFiles)
	done(t, d, opened(t, d), nil, list...)
}

// P11.3: names that may not be: ErrArg, wherever they are in the list, and nothing is done; nor is there such a file to be read or erased.
func TestNamesThatMayNotBe(t *testing.T) {
	d := small(5)
	f := opened(t, d)
	want := done(t, d, f, nil, put("a", 1, 300), put(strings.Repeat("n", maxName), 2, 0))
	for _, name := range []string{"", strings.Repeat("n", maxName+1), strings.Repeat("n", maxName+2), strings.Repeat("\x00", 255), strings.Repeat("n", 256), strings.Repeat("n", 257), strings.Repeat("n", 256+maxName), strings.Repeat("n", 70000)} {
		for _, bad := range []api.FileChange{put(name, 3, 1), put(name, 3, 0), gone(name)} {
			for _, list := range [][]api.FileChange{{bad}, {put("b", 4, 1), bad}, {bad, gone("a")}, {gone("a"), bad, put("b", 4, 1)}} {
				if code := want.code(list, 5); code != api.ErrArg {
					t.Fatalf("it is reckoned that the code is %d", code)
				}
				want = done(t, d, f, want, list...)
			}
		}
		if code := f.Erase(name); code != api.ErrNotFound {
			t.Errorf("Erase(%d bytes): code %d", len(name), code)
		}
		tells(t, f, want, 5)
	}
}

// P11.3: files of many lengths, in one commit and one by one, and each again with other bytes.
func TestLengths(t *testing.T) {
	lengths := []int{0, 1, 2, 254, 255, 256, 257, 511, 512, 513, 700, 1023, 1024, 1025, 4096, 4097, 65535, 65536, 65537}
	var list []api.FileChange
	for i, n := range lengths {
		name := string([]byte{byte('a' + i)})
		list = append(list, put(name, int64(i), n))
		d := small(blocksOf(n) + 1)
		f := opened(t, d)
		want := done(t, d, f, nil, put(name, int64(i), n))
		if f.Free() != 1 {
			t.Errorf("%d bytes take %d blocks", n, blocksOf(n)+1-f.Free())
		}
		done(t, d, f, want, put("zz", 50, blockLen))
	}
	d := disk.New(maxBlocks)
	f := opened(t, d)
	want := done(t, d, f, nil, list...)
	for i, n := range lengths {
		want = done(t, d, f, want, put(string([]byte{byte('a' + i)}), int64(100+i), lengths[len(lengths)-1-i]), put(string([]byte{byte('A' + i)}), int64(200+i), n))
	}
	for range 3 {
		f = opened(t, d)
		tells(t, f, want, maxData)
	}
}

// P11.3: as many bytes as there are blocks for, in one file and in several, and one more: ErrNoSpace.
func TestAllBlocks(t *testing.T) {
	for _, blocks := range []int{1, 2, 3, 7, 100, maxData - 1, maxData, maxData + 1, maxBlocks - walBlocks - metaBlocks} {
		d := small(blocks)
		blocks = min(blocks, maxData)
		f := opened(t, d)
		for _, n := range []int{blocks*blockLen + 1, (blocks + 1) * blockLen, 2 * blocks * blockLen, 1 << 24} {
			if code := f.Commit([]api.FileChange{put("a", 1, n)}); code != api.ErrNoSpace {
				t.Fatalf("%d bytes in %d blocks: code %d", n, blocks, code)
			}
		}
		for _, n := range []int{blocks*blockLen - 1, blocks * blockLen} {
			want := done(t, d, f, nil, put("a", 2, n))
			want = done(t, d, f, want, put("none", 3, 0))
			for _, c := range []api.FileChange{put("b", 4, 1), put("a", 4, 1), put("none", 4, 1)} {
				if code := f.Commit([]api.FileChange{c}); code != api.ErrNoSpace || f.Free() != 0 {
					t.Fatalf("%d blocks, none is free: code %d", blocks, code)
				}
			}
			want = done(t, d, f, want, gone("a"))
			done(t, d, f, want, gone("none"))
		}
		var list []api.FileChange
		for i := range min(blocks, maxFiles) {
			list = append(list, put(string([]byte{'n', byte(i)}), int64(i), blockLen-i))
		}
		list[0] = put("rest", 70, (blocks-len(list)+1)*blockLen)
		want := done(t, d, f, nil, list...)
		if f.Free() != 0 || len(want) != len(list) {
			t.Fatalf("%d blocks: %d are free", blocks, f.Free())
		}
	}
}

// P11.3: 64 files, one by one and in one commit, and one more: ErrLimit; one that goes makes room for another in the same commit.
func TestManyFiles(t *testing.T) {
	var all []api.FileChange
	for i := range maxFiles {
		all = append(all, put(string([]byte{byte(i * 37), 'n'}), int64(i), i%3*100))
	}
	more := put("more", 99, 1)
	for _, step := range []int{1, 9, maxFiles} {
		d := small(2 * maxFiles)
		f, want := opened(t, d), reckoned{}
		if code := f.Commit(append(slices.Clone(all), more)); code != api.ErrLimit {
			t.Fatalf("65 files at once: code %d", code)
		}
		for list := range slices.Chunk(all, step) {
			want = done(t, d, f, want, list...)
		}
		for i := range all {
			if code := f.Commit([]api.FileChange{more, put("another", 98, 0), gone(all[i].Name)}); code != api.ErrLimit {
				t.Fatalf("two for one of 64: code %d", code)
			}
		}
		if f.Commit([]api.FileChange{more}) != api.ErrLimit || f.Commit([]api.FileChange{put("empty", 99, 0)}) != api.ErrLimit {
			t.Error("65 files")
		}
		want = done(t, d, f, want, put(all[3].Name, 97, 300))
		want = done(t, d, f, want, more, gone(all[5].Name))
		want = done(t, d, f, want, gone("more"), put("last", 96, 1), gone(all[6].Name), put("empty", 95, 0))
		if len(want) != maxFiles {
			t.Fatalf("%d files", len(want))
		}
		for list := range slices.Chunk(want.names(), step) {
			var going []api.FileChange
			for _, name := range list {
				going = append(going, gone(name))
			}
			want = done(t, d, f, want, going...)
		}
		tells(t, f, nil, 2*maxFiles)
	}
}

// P11.3: a file in place of another one that is longer, shorter, or as long, with just so many free blocks as it needs, and with one less: what it had doesn't count as free.
func TestFilesInPlaceOfOthers(t *testing.T) {
	lengths := []int{0, 1, 255, 256, 257, 512, 600, 1024, 1025}
	for _, old := range lengths {
		for _, next := range lengths {
			for less := range 2 {
				blocks := blocksOf(old) + blocksOf(next) - less
				if blocks < 1 || next == 0 && less == 1 {
					continue
				}
				d := small(blocks + 1)
				f := opened(t, d)
				want := done(t, d, f, nil, put("a", 1, old), put("other", 3, 1))
				changed := done(t, d, f, want, put("a", 2, next))
				if kept := changed.same(want); kept != (less == 1) && old+next > 0 {
					t.Fatalf("%d bytes for %d, %d less: done: %v", next, old, less, !kept)
				}
				done(t, d, f, changed, put("a", 4, old))
			}
		}
	}
	// What goes in a commit doesn't count as free in it either, but behind it.
	d := small(4)
	f := opened(t, d)
	want := done(t, d, f, nil, put("a", 1, 700))
	for _, list := range [][]api.FileChange{{gone("a"), put("b", 2, 257)}, {put("b", 2, 257), gone("a")}, {put("a", 2, 0), put("b", 2, 257)}} {
		if code := f.Commit(list); code != api.ErrNoSpace {
			t.Errorf("code %d", code)
		}
	}
	want = done(t, d, f, want, gone("a"), put("b", 2, 256))
	done(t, d, f, want, put("c", 3, 600))
}

// P11.3: the first of several codes, wherever in the list it comes from, and nothing is done, the power being there, or gone: ErrDown is the last one.
func TestOrderOfCodes(t *testing.T) {
	var all []api.FileChange
	for i := range maxFiles {
		all = append(all, put(string([]byte{'n', byte(i)}), int64(i), 10))
	}
	arg, twice, absent, limit, space := put("", 1, 1), gone("n\x01"), gone("absent"), put("x", 2, 0), put("n\x02", 3, 1000*blockLen)
	cases := []struct {
		want api.Code
		list []api.FileChange
	}{
		{api.ErrArg, []api.FileChange{absent, space, limit, arg}},
		{api.ErrArg, []api.FileChange{arg, absent, limit, space}},
		{api.ErrArg, []api.FileChange{absent, limit, space, twice, twice}},
		{api.ErrArg, []api.FileChange{absent, absent}},
		{api.ErrArg, []api.FileChange{twice, absent, put("n\x01", 4, 1)}},
		{api.ErrArg, []api.FileChange{put("n\x01", 4, 1), limit, space, gone("n\x01")}},
		{api.ErrArg, []api.FileChange{limit, limit}},
		{api.ErrArg, []api.FileChange{put("n\x01", 4, 1), put("n\x01", 4, 1)}},
		{api.ErrNotFound, []api.FileChange{limit, space, absent}},
		{api.ErrNotFound, []api.FileChange{absent, limit, put("y", 2, 0)}},
		{api.ErrNotFound, []api.FileChange{absent}},
		{api.ErrLimit, []api.FileChange{space, limit}},
		{api.ErrLimit, []api.FileChange{limit}},
		{api.ErrLimit, []api.FileChange{put("x", 2, 5000*blockLen)}},
		{api.ErrLimit, []api.FileChange{twice, limit, put("y", 3, 1)}},
		{api.ErrNoSpace, []api.FileChange{space}},
		{api.ErrNoSpace, []api.FileChange{limit, twice, space}},
		{api.ErrNoSpace, []api.FileChange{gone("n\x02"), put("n\x03", 1, 7*blockLen+1)}},
	}
	for i, c := range cases {
		d := small(maxFiles + 7)
		w := journal(t, d)
		f, _ := file.Open(w)
		want := done(t, d, f, nil, all...)
		if got := want.code(c.list, maxFiles+7); got != c.want {
			t.Fatalf("list %d: it is reckoned that the code is %d", i, got)
		}
		done(t, d, f, want, c.list...)
		d.Arm(1)
		if code := f.Commit(c.list); code != c.want || d.Down() || w.Sync() != api.ErrDown {
			t.Errorf("list %d, the power going: code %d, or it is an act", i, code)
		}
		if code := f.Commit(c.list); code != c.want {
			t.Errorf("list %d, the power being gone: code %d, not %d", i, code, c.want)
		}
		if code := f.Erase("absent"); code != api.ErrNotFound {
			t.Errorf("the power being gone Erase answers %d", code)
		}
		tells(t, f, want, maxFiles+7)
		if code := f.Commit([]api.FileChange{[]api.FileChange{put("n\x05", 6, 1), gone("n\x05"), put("n\x05", 6, 0)}[i%3]}); code != api.ErrDown {
			t.Errorf("the power being gone: code %d", code)
		}
		noUse(t, d, f)
		tells(t, f, want, maxFiles+7)
		d.Crash(nil)
		noUse(t, d, f)
		isSafe(t, d, want)
	}
}

// P11.3, P11.4: the power being gone already: a commit of nothing and an Erase are ErrDown, too.
func TestThePowerBeingGone(t *testing.T) {
	deeds := []func(f *file.Files) api.Code{
		func(f *file.Files) api.Code { return f.Commit(nil) },
		func(f *file.Files) api.Code { return f.Commit([]api.FileChange{gone("a")}) },
		func(f *file.Files) api.Code { return f.Commit([]api.FileChange{put("a", 9, 1), put("c", 9, 1)}) },
		func(f *file.Files) api.Code { return f.Erase("a") },
		func(f *file.Files) api.Code { return f.Erase("none") },
	}
	for i, deed := range deeds {
		d := small(6)
		w := journal(t, d)
		f, _ := file.Open(w)
		want := done(t, d, f, nil, put("a", 1, 300), put("none", 2, 0))
		d.Arm(1)
		w.Sync()
		if code := deed(f); code != api.ErrDown {
			t.Fatalf("deed %d: code %d", i, code)
		}
		noUse(t, d, f)
		tells(t, f, want, 6)
		d.Crash(nil)
		noUse(t, d, f)
		isSafe(t, d, want)
		if f = opened(t, d); deed(f) != api.OK {
			t.Errorf("deed %d: opened anew it isn't done", i)
		}
	}
}

// P11.3: a commit of nothing changes nothing.
func TestCommitsOfNone(t *testing.T) {
	d := small(6)
	f := opened(t, d)
	for _, list := range [][]api.FileChange{nil, {}, make([]api.FileChange, 0, 9)} {
		done(t, d, f, nil, list...)
	}
	want := done(t, d, f, nil, put("a", 1, 300))
	safe := d.Image()
	if f.Commit(nil) != api.OK || !bytes.Equal(d.Image(), safe) {
		t.Error("a commit of nothing changes the disk")
	}
	tells(t, f, want, 6)
}

// P11.4: Erase: the file isn't there any more, its blocks are free, others are as they were; ErrNotFound of one that isn't there, and nothing is done.
func TestErase(t *testing.T) {
	for _, blocks := range []int{15, 300, maxData, maxData + 20} {
		d := small(blocks)
		f := opened(t, d)
		want := done(t, d, f, nil, put("a", 1, 300), put("b", 2, 0), put("c", 3, 256), put("d", 4, 1025), put("e", 5, 1))
		for _, name := range []string{"d", "b", "a", "e", "c"} {
			safe := d.Image()
			for _, other := range []string{"", "absent", "A", name + "\x00", "\x00" + name} {
				if code := f.Erase(other); code != api.ErrNotFound || !bytes.Equal(d.Image(), safe) || d.Waiting() > 0 {
					t.Errorf("Erase(%q): code %d, or something is done", other, code)
				}
			}
			if code := f.Erase(name); code != api.OK {
				t.Fatalf("Erase(%q): code %d", name, code)
			}
			hasNothingOf(t, d.Image(), []byte(want[name]))
			want = want.with(gone(name))
			tells(t, f, want, min(blocks, maxData))
			isSafe(t, d, want)
			if code := f.Erase(name); code != api.ErrNotFound {
				t.Errorf("Erase(%q) once more: code %d", name, code)
			}
		}
	}
}

// P11.5: behind an Erase nothing of what a file ever had is on the disk, though it was committed, changed, gone and there again; so is it if a commit or an Erase of it was cut off. Other files are as they were.
func TestEraseLeavesNothing(t *testing.T) {
	lengths := []int{300, 700, 10, 1024, 256, 513}
	for seed := range int64(120) {
		r := rand.New(rand.NewSource(seed))
		d := small(20)
		f := opened(t, d)
		want := done(t, d, f, nil, put("other", 1, 600), put("z", 2, 30))
		var had [][]byte
		for i := range 3 + r.Intn(4) {
			c := put("a", 1000+10*seed+int64(i), lengths[r.Intn(len(lengths))])
			had = append(had, c.Data)
			list := []api.FileChange{c}
			switch r.Intn(6) {
			case 0:
				list = append(list, put("z", int64(i), 300))
			case 1:
				if _, there := want["a"]; there {
					want = done(t, d, f, want, gone("a"))
				}
			case 2:
				d.Arm(1 + r.Intn(90))
				code := f.Commit(list)
				d.Crash(drawnKeep(r, 50))
				if f = opened(t, d); code != api.OK && !seen(t, f).same(want.with(c)) {
					continue
				}
				want = want.with(c)
			}
			want = done(t, d, f, want, list...)
		}
		if _, there := want["a"]; !there {
			want = done(t, d, f, want, put("a", 3, 5))
		}
		if r.Intn(3) == 0 {
			d.Arm(1 + r.Intn(100))
			f.Erase("a")
			d.Crash(drawnKeep(r, 100))
			if f = opened(t, d); !slices.Contains(f.Names(), "a") {
				f.Commit([]api.FileChange{put("a", 4, 1)})
			}
		}
		if code := f.Erase("a"); code != api.OK {
			t.Fatalf("script %d: Erase: code %d", seed, code)
		}
		want = want.with(gone("a"))
		tells(t, f, want, 20)
		isSafe(t, d, want)
		hasNothingOf(t, d.Image(), had...)
	}
}

// P11.5: nor is the name of a file that was erased anywhere on the disk.
func TestEraseLeavesNoName(t *testing.T) {
	for seed := range int64(20) {
		d := small(20)
		f := opened(t, d)
		name := string(drawn(500+seed, maxName))
		want := done(t, d, f, nil, put("other", 1, 600), put(name, 2, 300))
		for i := range seed % 5 {
			want = done(t, d, f, want, put(string(drawn(100+i, 20)), i, 10))
		}
		if code := f.Erase(name); code != api.OK {
			t.Fatalf("code %d", code)
		}
		hasNothingOf(t, d.Image(), []byte(name))
		isSafe(t, d, want.with(gone(name)))
	}
}

// P11.1: what a commit left is never refused: though bytes that tell of files were turned while these were open.
func TestCommitsBehindTurnedBytes(t *testing.T) {
	d, want := some(t)
	image := d.Image()
	for at := range metaBlocks * blockLen / 16 {
		for n, turned := range [][]byte{drawn(int64(at), 16), make([]byte, 16), drawn(int64(at), metaBlocks*blockLen-16*at)} {
			if n == 2 && at%16 > 0 {
				continue
			}
			d := loaded(t, image)
			f := opened(t, d)
			d.Tamper(walBlocks*blockLen+16*at, turned)
			if at%2 == 0 {
				done(t, d, f, want, put("late", 1, 100), gone("d"))
				continue
			}
			if code := f.Erase("d"); code != api.OK {
				t.Fatalf("Erase: code %d", code)
			}
			isSafe(t, d, want.with(gone("d")))
		}
	}
}

// P11.4: of an Erase that was cut off the file may have blocks 0; nothing else is changed, and all of it is done, if it answered OK.
func TestLossesInErases(t *testing.T) {
	d := small(12)
	f := opened(t, d)
	done(t, d, f, nil, put("a", 1, 300))
	want := done(t, d, f, reckoned(seen(t, f)), put("a", 2, 700), put("b", 3, 300), put("none", 4, 0))
	image := d.Image()
	for _, name := range []string{"a", "b", "none"} {
		r := rand.New(rand.NewSource(2))
		there, absent := 0, 0
		acts := losses(t, image, func(f *file.Files) api.Code { return f.Erase(name) }, func(l loss) {
			d, f := reopened(t, r, l.image)
			got := seen(t, f)
			if !got.partly(want, name) || l.code == api.OK && !got.same(want.with(gone(name))) {
				t.Fatalf("%q, act %d, code %d, keeping %v: files %q, or other bytes", name, l.act, l.code, l.keep, f.Names())
			}
			tells(t, f, got, 12)
			isSafe(t, d, got)
			if _, is := got[name]; is {
				there++
			} else {
				absent++
				hasNothingOf(t, d.Image(), []byte(want[name]))
			}
		})
		if acts < 3 || there == 0 || absent == 0 {
			t.Errorf("%q: %d acts, behind which it is there %d times, gone %d times", name, acts, there, absent)
		}
	}
}

// scene: what is committed, and what then, the power going.
type scene struct {
	name   string
	blocks int
	first  []api.FileChange
	list   []api.FileChange
}

func scenes() []scene {
	var many, all []api.FileChange
	for i := range maxFiles {
		many = append(many, put(string([]byte{'n', byte(i)}), int64(i), i%3*200))
		all = append(all, gone(many[i].Name))
	}
	return []scene{
		{"the first file", 1, nil, []api.FileChange{put("a", 1, 256)}},
		{"a file of nothing", 1, nil, []api.FileChange{put("a", 1, 0)}},
		{"nothing", 2, []api.FileChange{put("a", 1, 10)}, nil},
		{"the last file goes", 2, []api.FileChange{put("a", 1, 300)}, []api.FileChange{gone("a")}},
		{"longer", 6, []api.FileChange{put("a", 1, 300), put("b", 2, 10)}, []api.FileChange{put("a", 3, 513)}},
		{"shorter", 5, []api.FileChange{put("a", 1, 700), put("b", 2, 10)}, []api.FileChange{put("a", 3, 1)}},
		{"of other bytes", 6, []api.FileChange{put("a", 1, 700)}, []api.FileChange{put("a", 3, 700)}},
		{"one for another", 9, []api.FileChange{put("a", 1, 300), put("b", 2, 10)}, []api.FileChange{put("a", 4, 400), gone("b"), put("c", 3, 3)}},
		{"two that change about", 8, []api.FileChange{put("a", 1, 300), put("b", 2, 500)}, []api.FileChange{put("a", 2, 500), put("b", 1, 300)}},
		{"many come", 100, []api.FileChange{put("a", 1, 300)}, many[:50]},
		{"many go", 100, many, all},
	}
}

// P11.3: the power going in each act of a commit, with each choice of what survives: opened anew, all changes are done, or none; all, if it answered OK.
func TestLossesInCommits(t *testing.T) {
	for _, s := range scenes() {
		d := small(s.blocks)
		old := done(t, d, opened(t, d), nil, s.first...)
		next := old.with(s.list...)
		image := d.Image()
		r := rand.New(rand.NewSource(3))
		all, none := 0, 0
		acts := losses(t, image, func(f *file.Files) api.Code { return f.Commit(s.list) }, func(l loss) {
			d, f := reopened(t, r, l.image)
			switch got := seen(t, f); {
			case got.same(next):
				all++
			case got.same(old) && l.code != api.OK:
				none++
			default:
				t.Fatalf("%s: act %d, code %d, keeping %v: files %q, or other bytes", s.name, l.act, l.code, l.keep, f.Names())
			}
			got := seen(t, f)
			tells(t, f, got, s.blocks)
			if r.Intn(9) == 0 {
				done(t, d, f, got, put("last", 5, f.Free()*blockLen), gone(append(f.Names(), "last")[0]))
			}
		})
		if acts < 2 || all == 0 || none == 0 && !old.same(next) {
			t.Errorf("%s: %d acts, behind which all is done %d times, and nothing %d times", s.name, acts, all, none)
		}
	}
}

// P11.3, P11.4: the same on the greatest disk, with acts that are drawn.
func TestLossesOnAGreatDisk(t *testing.T) {
	d := disk.New(maxBlocks)
	old := done(t, d, opened(t, d), nil, put("a", 1, 1000*blockLen), put("b", 2, 47*blockLen))
	list := []api.FileChange{put("a", 3, 1000*blockLen), gone("b"), put("c", 4, 257)}
	image := d.Image()
	deeds := []struct {
		deed func(f *file.Files) api.Code
		may  func(got reckoned) bool
		next reckoned
	}{
		{func(f *file.Files) api.Code { return f.Commit(list) }, old.same, old.with(list...)},
		{func(f *file.Files) api.Code { return f.Erase("a") }, func(got reckoned) bool { return got.partly(old, "a") }, old.with(gone("a"))},
	}
	for i, one := range deeds {
		r := rand.New(rand.NewSource(4))
		for range 100 {
			act := []int{1 + r.Intn(2200), 1000 + r.Intn(100), 2047 + r.Intn(100)}[r.Intn(3)]
			d, f, code := cut(t, image, act, one.deed)
			if code == api.ErrDown {
				noUse(t, d, f)
			}
			d.Crash([][]bool{nil, drawnKeep(r, d.Waiting()), slices.Repeat([]bool{true}, d.Waiting())}[r.Intn(3)])
			_, f = reopened(t, r, d.Image())
			if got := seen(t, f); !got.same(one.next) && (code == api.OK || !one.may(got)) {
				t.Fatalf("deed %d, act %d, code %d: files %q, or other bytes", i, act, code, f.Names())
			}
		}
	}
}

// bench: a disk, its files, and what is reckoned of them.
type bench struct {
	t    *testing.T
	r    *rand.Rand
	d    *disk.Disk
	f    *file.Files
	now  reckoned
	next reckoned // what a commit that was cut off was to bring, or none
	cut  string   // the file of an Erase that was cut off
	down bool     // a call answered ErrDown
}

// change: mostly one that may be done.
func (b *bench) change() api.FileChange {
	all := []string{"a", "b", "c", "d", "e", "f", "g", "\x00", "\xff", strings.Repeat("n", maxName)}
	name := all[b.r.Intn(len(all))]
	if b.r.Intn(60) == 0 {
		name = []string{"", strings.Repeat("n", maxName+1)}[b.r.Intn(2)]
	}
	if _, there := b.now[name]; b.r.Intn(4) == 0 && (there || b.r.Intn(9) == 0) {
		return gone(name)
	}
	n := []int{0, 1, 255, 256, 257, b.r.Intn(1000), b.r.Intn(300), b.r.Intn(20), b.r.Intn(4000)}[b.r.Intn(9)]
	return put(name, b.r.Int63n(20), n)
}

func (b *bench) commit() {
	var list []api.FileChange
	for range []int{0, 1, 1, 1, 2, 3, 5}[b.r.Intn(7)] {
		c := b.change()
		if b.r.Intn(9) > 0 && slices.ContainsFunc(list, func(other api.FileChange) bool { return other.Name == c.Name }) {
			continue
		}
		list = append(list, c)
	}
	want, code := b.now.code(list, blocksFor(b.d)), b.f.Commit(list)
	if want == api.OK && code == api.OK {
		b.now = b.now.with(list...)
	} else if want == api.OK && !b.down {
		b.next = b.now.with(list...)
	}
	b.told("Commit", want, code)
}

func (b *bench) erase() {
	name := append(b.now.names(), "absent", "")[b.r.Intn(len(b.now)+2)]
	want := api.OK
	if _, there := b.now[name]; !there {
		want = api.ErrNotFound
	}
	code := b.f.Erase(name)
	if want == api.OK && code == api.OK {
		hasNothingOf(b.t, b.d.Image(), b.alone(name))
		b.now = b.now.with(gone(name))
	} else if want == api.OK && !b.down {
		b.cut = name
	}
	b.told("Erase", want, code)
}

// alone: what a file has, unless others have some of it, or it has bytes 0, as it does behind an Erase that was cut off.
func (b *bench) alone(name string) []byte {
	rows := windows([]byte(b.now[name]))
	if _, there := rows[[8]byte{}]; there {
		return nil
	}
	for other, data := range b.now {
		for row := range windows([]byte(data)) {
			if _, there := rows[row]; there && other != name {
				return nil
			}
		}
	}
	return []byte(b.now[name])
}

// told: that a call answered as it must, and that there are the files that are reckoned.
func (b *bench) told(what string, want, code api.Code) {
	b.t.Helper()
	if b.down || want == api.OK && b.d.Down() {
		want = api.ErrDown
	}
	if code != want {
		b.t.Fatalf("%s: code %d, not %d", what, code, want)
	}
	b.down = b.down || code == api.ErrDown
	if !b.down {
		tells(b.t, b.f, b.now, blocksFor(b.d))
		isSafe(b.t, b.d, b.now)
	}
}

// crash: the power comes again; the journal and the files are opened anew.
func (b *bench) crash() {
	b.d.Crash(drawnKeep(b.r, max(b.d.Waiting()+b.r.Intn(5)-2, 0)))
	b.d, b.f = reopened(b.t, b.r, b.d.Image())
	got := seen(b.t, b.f)
	if !got.same(b.now) && (b.next == nil || !got.same(b.next)) && (b.cut == "" || !got.partly(b.now, b.cut)) {
		b.t.Fatal("opened behind a loss, the files are neither as they were nor as they were to be")
	}
	b.now, b.next, b.cut, b.down = got, nil, "", false
	b.told("Open", api.OK, api.OK)
}

// P11.1 to P11.5: long scripts of all calls on small disks: behind each step the files are as reckoned.
func TestDrawnScripts(t *testing.T) {
	for seed := range int64(120) {
		r := rand.New(rand.NewSource(seed))
		d := small(1 + r.Intn(40))
		b := &bench{t: t, r: r, d: d, f: opened(t, d), now: reckoned{}}
		for range 100 {
			switch kind := r.Intn(20); {
			case kind < 11:
				b.commit()
			case kind < 14:
				b.erase()
			case kind < 16:
				if !b.down {
					b.d.Arm(r.Intn(110))
				}
			case kind < 17 && !b.d.Down():
				b.d.Arm(0)
				b.f = opened(t, b.d)
				b.told("Open", api.OK, api.OK)
			default:
				if b.down || kind == 19 {
					b.crash()
				}
			}
		}
	}
}

// P11.2, P11.3: the document's examples.
func TestExamples(t *testing.T) {
	d := small(9)
	f := opened(t, d)
	if f.Free() != 9 || len(f.Names()) != 0 {
		t.Fatal("files on a new disk")
	}
	if f.Commit([]api.FileChange{{Name: "a", Data: []byte("x")}, {Name: "b"}}) != api.OK || f.Free() != 8 {
		t.Errorf("%d blocks are free", f.Free())
	}
	tells(t, f, reckoned{"a": "x", "b": ""}, 9)
	if code := f.Commit([]api.FileChange{gone("a"), gone("a")}); code != api.ErrArg {
		t.Errorf("a gone twice: code %d", code)
	}
	tells(t, f, reckoned{"a": "x", "b": ""}, 9)
}

// P11.3: bytes beside Gone mean nothing.
func TestBytesOfWhatGoes(t *testing.T) {
	d := small(3)
	f := opened(t, d)
	want := done(t, d, f, nil, put("a", 1, 300))
	c := put("a", 2, 5000)
	c.Gone = true
	done(t, d, f, want, c)
	if f.Free() != 3 {
		t.Errorf("%d blocks are free", f.Free())
	}
}

// What is handed in stays as it was, its spare room too, and isn't kept: written over behind a call it changes nothing.
func TestWhatIsHandedIn(t *testing.T) {
	const room = 300
	lengths := []int{0, 1, 255, 256, 300, 512}
	for _, blocks := range []int{20, 3} { // the second time it is refused
		d := small(blocks)
		f := opened(t, d)
		list := make([]api.FileChange, 0, 20)
		want := reckoned{}
		for i, n := range lengths {
			c := api.FileChange{Name: string([]byte{byte('a' + i)}), Data: drawn(int64(i), n+room)[:n]}
			list = append(list, c)
			want = want.with(c)
		}
		spare := list[:cap(list)]
		for i := len(list); i < len(spare); i++ {
			spare[i].Name = "spare"
		}
		if code := f.Commit(list); code != reckoned(nil).code(list, blocks) {
			t.Fatalf("code %d", code)
		} else if code != api.OK {
			want = nil
		}
		for i, c := range spare {
			if i >= len(lengths) {
				if c.Name != "spare" || c.Data != nil || c.Gone {
					t.Error("a list's spare room is changed")
				}
				continue
			}
			if c.Name != string([]byte{byte('a' + i)}) || len(c.Data) != lengths[i] || c.Gone || !bytes.Equal(c.Data[:lengths[i]+room], drawn(int64(i), lengths[i]+room)) {
				t.Errorf("change %d is changed", i)
			}
			clear(c.Data[:cap(c.Data)])
		}
		clear(spare)
		tells(t, f, want, blocks)
		isSafe(t, d, want)
	}
}

// What a call hands back is new memory each time, and the disk's doesn't hang on it.
func TestAnswersAreNewMemory(t *testing.T) {
	d, want := some(t)
	for _, f := range []*file.Files{opened(t, d), opened(t, d)} {
		for name := range want {
			first, _ := f.Read(name)
			second, _ := f.Read(name)
			for i := range first[:cap(first)] {
				first[:cap(first)][i] ^= 0xff
			}
			_ = append(first, drawn(1, 1000)...)
			if string(second) != want[name] {
				t.Errorf("two answers to Read(%q) share memory", name)
			}
			tells(t, f, want, blocksFor(d))
		}
		first, second := f.Names(), f.Names()
		clear(first[:cap(first)])
		if !slices.Equal(second, want.names()) {
			t.Error("two lists of names share memory")
		}
		tells(t, f, want, blocksFor(d))
		isSafe(t, d, want)
	}
}

// The same calls make the same safe bytes, and where the power goes doesn't hang on what bytes files have, but on their lengths.
func TestSameCallsMakeTheSameDisk(t *testing.T) {
	for seed := range int64(30) {
		var images []string
		for range 3 {
			var each strings.Builder
			r := rand.New(rand.NewSource(seed))
			d := small(30)
			b := &bench{t: t, r: r, d: d, f: opened(t, d), now: reckoned{}}
			for range 40 {
				if b.commit(); r.Intn(3) == 0 {
					b.erase()
				}
				each.Write(b.d.Image())
			}
			images = append(images, each.String())
		}
		if images[0] != images[1] || images[0] != images[2] {
			t.Errorf("script %d: other safe bytes when it is done again", seed)
		}
	}
	var counts [][]int
	for _, data := range [][]byte{make([]byte, 1000), drawn(1, 1000), bytes.Repeat([]byte{0xff}, 1000)} {
		d := small(12)
		f := opened(t, d)
		f.Commit([]api.FileChange{{Name: "a", Data: data}})
		f.Commit([]api.FileChange{{Name: "a", Data: data[:600]}, {Name: "b", Data: data[1:]}})
		erased := acts(t, d, func() api.Code { return f.Erase("b") })
		counts = append(counts, []int{erased, acts(t, d, func() api.Code { return f.Commit([]api.FileChange{{Name: "c", Data: data}}) })})
	}
	if !slices.Equal(counts[0], counts[1]) || !slices.Equal(counts[0], counts[2]) {
		t.Errorf("an Erase and a commit have acts %v", counts)
	}
}

// acts: how many acts a deed has that answers OK.
func acts(t *testing.T, d *disk.Disk, deed func() api.Code) int {
	t.Helper()
	const many = 10000
	d.Arm(many)
	if code := deed(); code != api.OK {
		t.Fatalf("code %d", code)
	}
	left := 0
	for !d.Down() {
		d.Sync()
		left++
	}
	d.Crash(nil)
	return many - left
}
