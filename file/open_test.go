package file_test

import (
	"bytes"
	"math/rand"
	"slices"
	"strings"
	"testing"

	"orlop/api"
	"orlop/disk"
	"orlop/file"
	"orlop/sha"
	"orlop/word"
)

// P11.1, P11.2: a disk without a block for bytes is ErrArg, whatever bytes it has; else, all bytes being 0, there are no files, and all blocks are free, of which so many count at most.
func TestDisksOfSoManyBlocks(t *testing.T) {
	for behind := 1; behind <= maxBlocks-walBlocks; behind++ {
		if behind > 45 && behind < 2070 && behind%97 > 0 {
			continue
		}
		d := disk.New(walBlocks + behind)
		if behind <= metaBlocks {
			for _, drawnToo := range []bool{false, true} {
				if drawnToo {
					d.Tamper(walBlocks*blockLen, drawn(int64(behind), behind*blockLen))
				}
				safe := d.Image()
				if f, code := file.Open(journal(t, d)); f != nil || code != api.ErrArg || !bytes.Equal(d.Image(), safe) {
					t.Errorf("%d blocks behind the journal: code %d, Files: %v, or it is changed", behind, code, f != nil)
				}
			}
			continue
		}
		for _, drawnToo := range []bool{false, true} { // blocks that no file takes may have any bytes
			if drawnToo {
				d.Tamper(bytesFrom, drawn(int64(behind), maxBlocks*blockLen))
			}
			safe := d.Image()
			f := opened(t, d)
			tells(t, f, nil, min(behind-metaBlocks, maxData))
			if len(f.Names()) != 0 || d.Waiting() != 0 || !bytes.Equal(d.Image(), safe) {
				t.Errorf("%d blocks behind the journal: names %q, or it is changed", behind, f.Names())
			}
		}
	}
}

// toldAtMost: what an image's files come to: one of what may be told, or ErrFormat and none. Whether they are told is told.
func toldAtMost(t *testing.T, what string, image []byte, may ...reckoned) bool {
	t.Helper()
	d := loaded(t, image)
	w := journal(t, d)
	safe := d.Image()
	f, code := file.Open(w)
	if !bytes.Equal(d.Image(), safe) || d.Waiting() != 0 || d.Down() {
		t.Fatalf("%s: an opening of the files writes", what)
	}
	if code == api.ErrFormat && f == nil {
		return false
	}
	if code != api.OK || f == nil {
		t.Fatalf("%s: code %d, Files: %v", what, code, f != nil)
	}
	got := seen(t, f)
	if !slices.ContainsFunc(may, got.same) {
		t.Fatalf("%s: files %q are told, or bytes that aren't theirs", what, f.Names())
	}
	if f.Free() != blocksFor(d)-got.blocks() {
		t.Fatalf("%s: %d blocks are free, not %d", what, f.Free(), blocksFor(d)-got.blocks())
	}
	return true
}

// P11.1: drawn bytes, or some bytes that aren't 0, where files are told: refused.
func TestDisksOfDrawnBytes(t *testing.T) {
	for seed := range int64(200) {
		image := drawn(seed, (walBlocks+metaBlocks+1+int(seed%9))*blockLen)
		clear(image[:walBlocks*blockLen])
		if seed%3 > 0 { // only some of them
			for at := walBlocks * blockLen; at < bytesFrom; at++ {
				if image[at]%byte(2+seed%5) > 0 {
					image[at] = 0
				}
			}
		}
		if toldAtMost(t, "drawn bytes", image) {
			t.Errorf("drawn bytes %d tell of files", seed)
		}
	}
	for at := range metaBlocks * blockLen {
		image := small(3).Image()
		image[walBlocks*blockLen+at] = byte(1 + at%255)
		toldAtMost(t, "a byte that isn't 0", image, nil)
		image[walBlocks*blockLen+at] = 1
		toldAtMost(t, "a byte 1", image, nil)
	}
	for _, x := range []byte{1, 2, 0x20, 0x7f, 0x80, 0xff} {
		image := bytes.Repeat([]byte{x}, 80*blockLen)
		clear(image[:walBlocks*blockLen])
		toldAtMost(t, "the same byte everywhere", image)
	}
}

// some: files of some lengths, on a disk with a few free blocks, two of them among the files'.
func some(t *testing.T) (*disk.Disk, reckoned) {
	t.Helper()
	d := small(14)
	f := opened(t, d)
	want := done(t, d, f, nil, put("a", 1, 300), put("b", 2, 0), put("cc", 3, 256), put("d", 4, 513), put("\x00\xff", 5, 1))
	want = done(t, d, f, want, gone("a"), put("e", 6, 255))
	return d, done(t, d, f, want, put(strings.Repeat("f", maxName), 7, 700))
}

// P11.1: a byte turned where files are told: just these are told, or it is refused.
func TestTurnedBytesOfWhatTells(t *testing.T) {
	d, want := some(t)
	image, refused := d.Image(), 0
	for at := range metaBlocks * blockLen {
		for _, turn := range []byte{1, byte(2 + at%250), 0x80, image[walBlocks*blockLen+at]} {
			turned := bytes.Clone(image)
			if turned[walBlocks*blockLen+at] ^= turn; !toldAtMost(t, "a turned byte", turned, want) {
				refused++
			}
		}
	}
	if refused < 100 {
		t.Errorf("only %d turned bytes are refused", refused)
	}
}

// P11.1: a block changed for another one of the disk, or of what the disk was before, where files are told; and two changed about.
func TestChangedBlocksOfWhatTells(t *testing.T) {
	d, want := some(t)
	before := d.Image()
	f := opened(t, d)
	next := done(t, d, f, want, gone("d"), put("cc", 8, 300), put("b", 9, 100))
	image := d.Image()
	place := func(b []byte, block int) []byte { return b[block*blockLen:][:blockLen] }
	for i := walBlocks; i < walBlocks+metaBlocks; i++ {
		for j := range d.Blocks() {
			for n, from := range [][]byte{image, before} {
				over := bytes.Clone(image)
				copy(place(over, i), place(from, j))
				toldAtMost(t, "a block over another", over, next)
				if n == 0 && j >= walBlocks {
					copy(place(over, j), place(image, i))
					if j < walBlocks+metaBlocks {
						toldAtMost(t, "two blocks changed about", over, next)
					}
				}
			}
		}
	}
	for first := range metaBlocks + 1 { // what was told before, in the first blocks or the last ones
		for last := first; last <= metaBlocks; last++ {
			over := bytes.Clone(image)
			at, end := (walBlocks+first)*blockLen, (walBlocks+last)*blockLen
			copy(over[at:end], before[at:end])
			may := next
			if bytes.Equal(over[walBlocks*blockLen:bytesFrom], before[walBlocks*blockLen:bytesFrom]) {
				continue // all of it
			}
			toldAtMost(t, "some blocks as they were before", over, may)
		}
	}
}

// P11.1: a disk that was cut off tells of its files, if all their blocks are there, or is refused; a greater one tells of the same, and has more free blocks.
func TestDisksOfOtherLengths(t *testing.T) {
	d, want := some(t)
	image := d.Image()
	told := 0
	for blocks := walBlocks + 1; blocks <= d.Blocks(); blocks++ {
		cut := image[:blocks*blockLen]
		if blocks <= walBlocks+metaBlocks {
			if f, code := file.Open(journal(t, loaded(t, cut))); f != nil || code != api.ErrArg {
				t.Errorf("cut off to %d blocks: code %d", blocks, code)
			}
			continue
		}
		if toldAtMost(t, "cut off", cut, want) {
			told++
		}
	}
	if told == 0 || told >= 14 {
		t.Errorf("told of %d lengths", told)
	}
	for _, more := range []int{1, 2, 100, maxBlocks - d.Blocks()} {
		if !toldAtMost(t, "a greater disk", append(bytes.Clone(image), drawn(10, more*blockLen)...), want) {
			t.Errorf("%d blocks more: refused", more)
		}
	}
}

// P11.2: bytes of a file that somebody turned are read as they are, by files that are open and by such as are opened anew; of other files none.
func TestTurnedBytesOfFiles(t *testing.T) {
	d, want := some(t)
	image, found := d.Image(), 0
	for at := bytesFrom; at < len(image); at++ {
		turned := bytes.Clone(image)
		turned[at] ^= 0x55
		f := opened(t, loaded(t, image))
		if at%7 == 0 { // turned while it is open
			d := loaded(t, image)
			f = opened(t, d)
			d.Tamper(at, turned[at:][:1])
		} else {
			f = opened(t, loaded(t, turned))
		}
		got, unlike := seen(t, f), 0
		for name, data := range want {
			if len(got[name]) != len(data) {
				t.Fatalf("byte %d turned: %q has %d bytes", at, name, len(got[name]))
			}
			for i := range len(data) {
				if got[name][i] != data[i] {
					unlike++
					if got[name][i] != data[i]^0x55 {
						t.Fatalf("byte %d turned: another byte than that", at)
					}
				}
			}
		}
		if len(got) != len(want) || unlike > 1 {
			t.Fatalf("byte %d turned: %d files, %d bytes unlike", at, len(got), unlike)
		}
		found += unlike
	}
	count := 0
	for _, data := range want {
		count += len(data)
	}
	if found != count {
		t.Errorf("of %d bytes of files %d lie in blocks for bytes", count, found)
	}
}

// line is a file as it is told: its name, how long the name is said to be, and how long the file.
type line struct {
	name   string
	length byte
	size   uint32
}

func named(name string, size uint32) line { return line{name, byte(len(name)), size} }

// telling: a disk with so many blocks for bytes that tells of files, whatever they are, with the digest that belongs to it. (Where files are told is the program's own; here it is written down once more.)
func telling(blocks int, lines []line, takers map[int]byte) []byte {
	meta := make([]byte, metaBlocks*blockLen)
	for i, l := range lines {
		row := meta[32+45*i:][:45]
		row[0] = l.length
		copy(row[1:41], l.name)
		copy(row[41:], word.Put32(l.size))
	}
	for block, taker := range takers {
		meta[32+45*maxFiles+block] = taker
	}
	copy(meta, sha.Of(meta[32:]))
	return slices.Concat(make([]byte, walBlocks*blockLen), meta, drawn(11, blocks*blockLen))
}

// P11.1: what nobody can have written, though its digest is right, is refused.
func TestTellingsThatNobodyWrote(t *testing.T) {
	good := []line{named("a", 300), named("b", 0), named("c", 256)}
	takers := func(list ...byte) map[int]byte {
		out := map[int]byte{}
		for i, x := range list {
			out[i] = x
		}
		return out
	}
	data := drawn(11, 5*blockLen)
	want := reckoned{"a": string(data[blockLen:][:300]), "b": "", "c": string(data[:blockLen])}
	if !toldAtMost(t, "as it is written", telling(5, good, takers(3, 1, 1)), want) {
		t.Fatal("files are told otherwise than this test knows")
	}
	long := strings.Repeat("l", maxName)
	many := make([]line, maxFiles)
	for i := range many {
		many[i] = named(string([]byte{'n', byte(i)}), 0)
	}
	for what, image := range map[string][]byte{
		"falling names":              telling(5, []line{good[1], good[0], good[2]}, takers(3, 2, 2)),
		"a name twice":               telling(5, []line{good[0], good[0]}, takers(1, 1, 2, 2)),
		"a name twice, of nothing":   telling(5, []line{good[1], good[1]}, nil),
		"a row without a name":       telling(5, []line{good[0], {}, good[2]}, takers(1, 1, 3)),
		"a name of no bytes":         telling(5, []line{named("", 1)}, takers(1)),
		"a name of 41 bytes":         telling(5, []line{{long, maxName + 1, 10}}, takers(1)),
		"a name of 42 bytes":         telling(5, []line{{long, maxName + 2, 10}}, takers(1)),
		"a name of 255 bytes":        telling(5, []line{{long, 255, 10}}, takers(1)),
		"bytes behind a name":        telling(5, []line{{"ab", 1, 10}}, takers(1)),
		"too few blocks":             telling(5, good, takers(3, 1)),
		"too many blocks":            telling(5, good, takers(3, 1, 1, 1)),
		"blocks of a file of none":   telling(5, good, takers(3, 1, 1, 2)),
		"no block at all":            telling(5, good[:1], nil),
		"more bytes than a disk has": telling(5, []line{named("a", 1<<32-1)}, takers(1, 1, 1, 1, 1)),
		"2^31 bytes":                 telling(5, []line{named("a", 1<<31)}, nil),
		"a block of another's":       telling(5, good, takers(3, 3, 1)),
		"a block of nobody's":        telling(5, good, takers(3, 1, 1, 4)),
		"a block of nobody's, 255":   telling(5, good, takers(3, 1, 1, 255)),
		"blocks without files":       telling(5, nil, takers(1)),
		"a block that isn't there":   telling(5, good, takers(3, 1, 0, 0, 0, 1)),
		"one block too many, absent": telling(5, good, takers(3, 1, 1, 0, 0, 1)),
		"a row too many":             telling(5, append(slices.Clone(many), named("o", 0)), nil),
		"bytes behind all":           telling(5, good, map[int]byte{0: 3, 1: 1, 2: 1, maxData: 1}),
		"a last byte":                telling(5, good, map[int]byte{0: 3, 1: 1, 2: 1, metaBlocks*blockLen - 32 - 45*maxFiles - 1: 1}),
	} {
		if toldAtMost(t, what, image) {
			t.Errorf("%s: it tells of files", what)
		}
	}
	all := reckoned{}
	for _, l := range many {
		all[l.name] = ""
	}
	toldAtMost(t, "64 files", telling(5, many, nil), all)
	toldAtMost(t, "no files", telling(5, nil, nil), nil)
	r := rand.New(rand.NewSource(12))
	for range 3000 { // drawn ones: what is told of no two files may be the same
		var lines []line
		for range r.Intn(5) {
			lines = append(lines, named([]string{"a", "b", "c", "d", "", long}[r.Intn(6)], uint32(r.Intn(600))))
		}
		list := make([]byte, r.Intn(8))
		for i := range list {
			list[i] = byte(r.Intn(5))
		}
		neverTwice(t, telling(5, lines, takers(list...)))
	}
}

// neverTwice: that no file that an image tells of has a block of another one, or bytes of none.
func neverTwice(t *testing.T, image []byte) {
	t.Helper()
	d := loaded(t, image)
	f, code := file.Open(journal(t, d))
	if code == api.ErrFormat && f == nil {
		return
	}
	got := seen(t, f)
	if code != api.OK || f.Free() != blocksFor(d)-got.blocks() {
		t.Fatalf("code %d, %d blocks are free, %d are taken", code, f.Free(), got.blocks())
	}
	found := map[string]int{}
	for _, data := range got {
		for i := 0; i < len(data); i += blockLen {
			some := data[i:min(i+blockLen, len(data))]
			at := bytes.Index(image[bytesFrom:], []byte(some))
			if at < 0 || len(some) > 8 && found[some] > 0 {
				t.Fatalf("a file has bytes of another one, or that no block has")
			}
			found[some]++
		}
	}
}
