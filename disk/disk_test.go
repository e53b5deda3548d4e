package disk_test

import (
	"bytes"
	"math"
	"math/rand"
	"slices"
	"testing"

	"orlop/api"
	"orlop/disk"
)

const (
	blockLen  = 256
	maxBlocks = 2176
	far       = 1 << 40 // further off than any place, or any number of acts, of a test
)

// ends: numbers at the ends of all, and such as are small once they were multiplied by a block's length and wrapped.
var ends = []int{math.MinInt, math.MinInt + 1, math.MinInt + 255, math.MinInt + 256, -1 << 56, -1 << 55, -1 << 32, -1 << 31, 1 << 31, 1 << 32, 1 << 55, 1<<55 + 1, 1 << 56, 1<<56 + 1, 1<<57 + 2, math.MaxInt - 256, math.MaxInt - 255, math.MaxInt - 1, math.MaxInt}

// P9.1: so many blocks, none if that is below 0, MaxBlocks if above; all bytes are 0, nothing waits, the power is there.
func TestNewDisks(t *testing.T) {
	counts := append([]int{0, -1, -2, -255, -256, -maxBlocks, 1, 2, 3, 41, 42, 43, maxBlocks - 1, maxBlocks, maxBlocks + 1, 2 * maxBlocks, maxBlocks * blockLen}, ends...)
	for _, blocks := range counts {
		want := blocks
		if blocks < 0 {
			want = 0
		} else if blocks > maxBlocks {
			want = maxBlocks
		}
		d := disk.New(blocks)
		if d == nil {
			t.Fatalf("New(%d): no disk", blocks)
		}
		same(t, "New", d, reckon(make([]byte, want*blockLen)))
		if d.Blocks() != want {
			t.Errorf("New(%d): %d blocks", blocks, d.Blocks())
		}
		if want > 0 && (d.Write(0, row(1)) != api.OK || d.Write(want-1, row(2)) != api.OK) {
			t.Errorf("New(%d): the first or the last block can't be written", blocks)
		}
		if d.Write(want, row(3)) != api.ErrArg || d.Sync() != api.OK {
			t.Errorf("New(%d): a block more is written, or Sync isn't done", blocks)
		}
	}
}

// P9.1: an image's bytes are safe, and are seen.
func TestLoadedImages(t *testing.T) {
	images := [][]byte{nil, {}, make([]byte, blockLen), drawn(2, (maxBlocks-1)*blockLen), drawn(3, maxBlocks*blockLen)}
	for blocks := range 70 {
		images = append(images, drawn(int64(10+blocks), blocks*blockLen))
	}
	for _, image := range images {
		d, r := both(t, image)
		same(t, "Load", d, r)
		if !bytes.Equal(d.Image(), image) || d.Blocks() != len(image)/blockLen {
			t.Errorf("an image of %d bytes: %d blocks, or other bytes", len(image), d.Blocks())
		}
		d.Crash([]bool{true})
		same(t, "Crash", d, r)
	}
}

// P9.1: ErrArg, and no disk, if an image isn't blocks, or more than MaxBlocks.
func TestImagesThatAreRefused(t *testing.T) {
	const most = maxBlocks * blockLen
	lengths := []int{most - 1, most + 1, most + blockLen - 1, most + blockLen, most + blockLen + 1, 2 * most, most * blockLen, 1 << 20, 1<<20 + 1, 1 << 24}
	for n := range 2000 {
		if n%blockLen != 0 {
			lengths = append(lengths, n)
		}
	}
	for blocks := 1; blocks <= maxBlocks; blocks += 25 {
		lengths = append(lengths, blocks*blockLen-1, blocks*blockLen+1)
	}
	for _, n := range lengths {
		if d, code := disk.Load(make([]byte, n)); code != api.ErrArg || d != nil {
			t.Errorf("an image of %d bytes: code %d, a disk: %v", n, code, d != nil)
		}
	}
}

// places: blocks that a disk of so many hasn't.
func places(blocks int) []int {
	return append([]int{-1, -2, -255, -256, -blocks, -blocks - 1, blocks, blocks + 1, blocks + 256, 2*blocks + 1, blocks * blockLen, maxBlocks, maxBlocks + 1, maxBlocks * blockLen}, ends...)
}

// P9.2: a Write to a block that there isn't is ErrArg, whether the power is there or gone, and it is no act; so is a Read.
func TestBlocksThatThereAreNot(t *testing.T) {
	for _, blocks := range []int{0, 1, 3, 42, maxBlocks} {
		for _, armed := range []int{0, 1, 2} {
			d, r := both(t, drawn(4, blocks*blockLen))
			d.Arm(armed)
			r.Arm(armed)
			refuse := func() {
				t.Helper()
				for _, block := range places(blocks) {
					if block >= 0 && block < blocks { // it is there
						continue
					}
					for _, b := range [][]byte{row(5), nil, row(5)[1:]} {
						if code := d.Write(block, b); code != api.ErrArg {
							t.Errorf("%d blocks, Write(%d), %d bytes: code %d", blocks, block, len(b), code)
						}
					}
					if b, code := d.Read(block); code != api.ErrArg || len(b) != 0 {
						t.Errorf("%d blocks, Read(%d): %d bytes, code %d", blocks, block, len(b), code)
					}
				}
				same(t, "what is refused", d, r)
			}
			refuse()
			for range armed { // the last one's act is the one in which the power goes
				run(t, step{"Sync", func(d device) api.Code { return d.Sync() }}, d, r)
				refuse()
			}
			if d.Down() != (armed > 0) {
				t.Errorf("armed with %d: the power is gone: %v", armed, d.Down())
			}
		}
	}
}

// P9.2: a Write of bytes that aren't a block's is ErrArg, whether the power is there or gone, and it is no act.
func TestWritesOfOtherLengths(t *testing.T) {
	lengths := []int{1000, 4096, 65536, 65536 + 256, 1 << 20}
	for n := range 800 {
		if n != blockLen {
			lengths = append(lengths, n)
		}
	}
	d, r := both(t, drawn(6, 3*blockLen))
	refuse := func() {
		t.Helper()
		for _, n := range lengths {
			for _, b := range [][]byte{drawn(7, n), append(make([]byte, 0, n+blockLen), drawn(8, n)...)} {
				if code := d.Write(n%3, b); code != api.ErrArg {
					t.Errorf("Write of %d bytes, the power gone: %v: code %d", n, d.Down(), code)
				}
			}
		}
		if code := d.Write(0, nil); code != api.ErrArg {
			t.Errorf("Write of nil, the power gone: %v: code %d", d.Down(), code)
		}
		same(t, "what is refused", d, r)
	}
	refuse()
	for _, s := range []step{writing(0, row(9)), arming(2), writing(1, row(10)), syncing(), writing(2, row(11)), syncing()} {
		run(t, s, d, r)
		refuse()
	}
	if !d.Down() || d.Write(0, row(1)) != api.ErrDown || d.Write(0, row(1)[1:]) != api.ErrArg {
		t.Error("armed with 2: the power isn't gone, or ErrDown is told ahead of ErrArg")
	}
}

// P9.2: what a block's bytes are seen to be: the safe ones, if no write waits for it, else those of the last one; while the power is gone, too.
func TestWhatIsSeen(t *testing.T) {
	image := drawn(12, 4*blockLen)
	for _, gone := range []bool{false, true} {
		d, _ := both(t, image)
		writes := []int{1, 2, 2, 3, 1, 3, 3}
		if gone {
			d.Arm(len(writes))
		}
		last := map[int][]byte{0: image[:blockLen]}
		for i, block := range writes {
			last[block] = drawn(int64(100+i), blockLen)
			want := api.OK
			if gone && i == len(writes)-1 {
				want = api.ErrDown
			}
			if code := d.Write(block, last[block]); code != want || d.Waiting() != i+1 {
				t.Fatalf("write %d: code %d, not %d, %d wait", i+1, code, want, d.Waiting())
			}
		}
		for range 2 { // writes and syncs behind it are refused, if the power is gone
			for block := range 4 {
				if got, code := d.Read(block); code != api.OK || !bytes.Equal(got, last[block]) {
					t.Errorf("gone: %v, block %d: % x.., code %d, not % x..", gone, block, got[:4], code, last[block][:4])
				}
			}
			if !bytes.Equal(d.Image(), image) || d.Down() != gone || d.Waiting() != len(writes) {
				t.Errorf("gone: %v: writes that wait are safe, or %d wait, or Down is %v", gone, d.Waiting(), d.Down())
			}
			if gone && (d.Write(0, row(1)) != api.ErrDown || d.Sync() != api.ErrDown) {
				t.Error("the power is gone: a Write or a Sync isn't ErrDown")
			}
		}
	}
}

// P9.2: behind a Sync nothing waits, and of each block the last write is safe.
func TestSyncMakesAllSafe(t *testing.T) {
	for count := range 30 {
		d, r := both(t, drawn(13, 5*blockLen))
		for i := range count {
			run(t, writing(i*i%5, drawn(int64(200+i), blockLen)), d, r)
		}
		if d.Waiting() != count {
			t.Errorf("%d writes: %d wait", count, d.Waiting())
		}
		run(t, syncing(), d, r)
		if d.Waiting() != 0 {
			t.Errorf("%d writes and a Sync: %d wait", count, d.Waiting())
		}
		run(t, syncing(), d, r)
		run(t, crashing(nil), d, r)
	}
}

// P9.2, P9.3: a disk of MaxBlocks blocks, each of which is written, synced and lost.
func TestAllBlocksOfAGreatDisk(t *testing.T) {
	d, r := both(t, make([]byte, maxBlocks*blockLen))
	for round := range 3 {
		for i := range maxBlocks {
			block := i * 1283 % maxBlocks // each once, in another order than theirs
			b := drawn(int64(i+round*maxBlocks), blockLen)
			if got, want := d.Write(block, b), r.Write(block, b); got != want {
				t.Fatalf("block %d: code %d, not %d", block, got, want)
			}
		}
		same(t, "writes of all blocks", d, r)
		if round == 1 {
			run(t, crashing(slices.Repeat([]bool{true, false, true}, maxBlocks/3)), d, r)
		} else {
			run(t, syncing(), d, r)
		}
	}
}

// acts: rows of writes and syncs, true for a Sync.
func acts() [][]bool {
	out := [][]bool{{false}, {true}, {false, true}, {true, false}, {false, false, true}, {true, true, false}}
	r := rand.New(rand.NewSource(14))
	for range 6 {
		drawnActs := make([]bool, 50)
		for i := range drawnActs {
			drawnActs[i] = r.Intn(3) == 0
		}
		out = append(out, drawnActs)
	}
	return out
}

// P9.2: armed with n the power goes in the n-th act, that one counted: a Write in which it goes waits, a Sync in which it goes makes nothing safe; what is refused, and what isn't an act, doesn't count.
func TestArmed(t *testing.T) {
	for _, row := range acts() {
		for n := 1; n <= 50; n++ {
			d, r := both(t, drawn(15, 3*blockLen))
			run(t, arming(n), d, r)
			for i := 1; i <= n+3; i++ {
				d.Read(i)
				d.Image()
				d.Tamper(i, nil)
				if d.Write(3, drawn(1, blockLen)) != api.ErrArg || d.Write(0, nil) != api.ErrArg {
					t.Fatal("what may not be is written")
				}
				s, sync := writing(i%3, drawn(int64(300+i), blockLen)), row[i%len(row)]
				if sync {
					s = syncing()
				}
				waited, safe := d.Waiting(), d.Image()
				run(t, s, d, r)
				if d.Down() != (i >= n) {
					t.Fatalf("armed with %d: behind act %d the power is gone: %v", n, i, d.Down())
				}
				if i < n {
					continue
				}
				if i == n && !sync {
					waited++
				}
				if d.Waiting() != waited || !bytes.Equal(d.Image(), safe) {
					t.Fatalf("armed with %d: behind act %d (a Sync: %v) %d writes wait, not %d, or other bytes are safe", n, i, sync, d.Waiting(), waited)
				}
			}
			run(t, crashing([]bool{true, false, true, true}), d, r)
			stays(t, d)
		}
	}
}

// P9.2: armed with a number below 1, or one that is far off, the power stays; so it does if nobody arms.
func TestArmedWithNone(t *testing.T) {
	stays(t, disk.New(2))
	for _, n := range append([]int{0, -1, -2, -100, 1000000}, ends...) {
		d := disk.New(2)
		d.Arm(n)
		stays(t, d)
	}
}

// P9.2: who arms anew begins to count anew, and what was said before doesn't hold.
func TestArmedAnew(t *testing.T) {
	for first := 1; first <= 8; first++ {
		for done := range first {
			for second := -2; second <= 12; second++ {
				d, r := both(t, make([]byte, 2*blockLen))
				run(t, arming(first), d, r)
				for i := range done {
					run(t, writing(i%2, drawn(int64(400+i), blockLen)), d, r)
				}
				run(t, arming(second), d, r)
				if second < 1 {
					stays(t, d)
					continue
				}
				for i := 1; i <= second; i++ {
					if code := d.Sync(); (code == api.ErrDown) != (i == second) || d.Down() != (i == second) {
						t.Fatalf("armed with %d, %d acts, armed with %d: act %d: code %d, gone: %v", first, done, second, i, code, d.Down())
					}
				}
			}
		}
	}
}

// P9.2: to arm doesn't bring the power back, and a power that comes again isn't armed, whether it was armed ahead of the loss or behind it.
func TestArmedWhileThePowerIsGone(t *testing.T) {
	for _, n := range append([]int{0, -1, 1, 2, 3, 10}, ends...) {
		for _, gone := range []bool{true, false} {
			d, r := both(t, drawn(16, 2*blockLen))
			if gone {
				run(t, arming(1), d, r)
				run(t, writing(1, row(17)), d, r)
			}
			run(t, arming(n), d, r)
			for range 3 {
				if gone && (d.Sync() != api.ErrDown || d.Write(0, row(18)) != api.ErrDown) {
					t.Errorf("armed with %d while the power is gone: it is there", n)
				}
			}
			same(t, "what is refused", d, r)
			run(t, crashing([]bool{true}), d, r)
			stays(t, d)
			d.Arm(2)
			if d.Sync() != api.OK || d.Sync() != api.ErrDown || !d.Down() {
				t.Error("armed behind a loss: the power stays")
			}
		}
	}
}

// P9.3: the document's examples.
func TestExamples(t *testing.T) {
	ones, twos := bytes.Repeat([]byte{1}, blockLen), bytes.Repeat([]byte{2}, blockLen)
	d := disk.New(1)
	d.Write(0, ones)
	d.Crash([]bool{false})
	if got, code := d.Read(0); code != api.OK || !bytes.Equal(got, make([]byte, blockLen)) {
		t.Errorf("a write that is lost: % x.., code %d", got[:4], code)
	}
	d.Write(0, ones)
	d.Write(0, twos)
	d.Crash([]bool{true, false})
	if got, code := d.Read(0); code != api.OK || !bytes.Equal(got, ones) {
		t.Errorf("two writes, the first of which is kept: % x.., code %d", got[:4], code)
	}
}

// P9.3: every list of what is kept, shorter ones and longer ones, for writes to several blocks, whether the power was gone or not.
func TestWhatIsKept(t *testing.T) {
	writes := []int{0, 1, 0, 2, 1, 0}
	for count := range len(writes) + 1 {
		for length := range count + 3 {
			for bits := range 1 << length {
				keep := make([]bool, length)
				for i := range keep {
					keep[i] = bits>>i&1 == 1
				}
				for _, goes := range []int{0, count, count + 1} { // in none, in the last write, or in the Sync behind it
					d, r := both(t, drawn(19, 3*blockLen))
					d.Arm(goes)
					r.Arm(goes)
					for i, block := range writes[:count] {
						b := drawn(int64(500+i), blockLen)
						if got, want := d.Write(block, b), r.Write(block, b); got != want {
							t.Fatalf("write %d: code %d, not %d", i+1, got, want)
						}
					}
					if goes > count {
						run(t, syncing(), d, r)
					}
					run(t, crashing(keep), d, r)
					if d.Down() || d.Waiting() != 0 {
						t.Fatalf("behind Crash the power is gone: %v, %d writes wait", d.Down(), d.Waiting())
					}
				}
			}
		}
	}
}

// P9.3: without a list nothing is kept; with one that is longer all may be; losses behind one another, too.
func TestListsOfOtherLengths(t *testing.T) {
	for _, keep := range [][]bool{nil, {}, {true}, slices.Repeat([]bool{true}, 5), slices.Repeat([]bool{true}, 10000), slices.Repeat([]bool{false}, 10000)} {
		d, r := both(t, drawn(20, 3*blockLen))
		run(t, crashing(keep), d, r)
		for i := range 5 {
			run(t, writing(i%3, drawn(int64(600+i), blockLen)), d, r)
		}
		run(t, crashing(keep), d, r)
		run(t, crashing(keep), d, r)
		run(t, writing(2, row(21)), d, r)
		run(t, crashing(keep), d, r)
		stays(t, d)
	}
}

// P9.3: bytes turned at every place around blocks' ends, so many that they end around them, too.
func TestTurnedBytes(t *testing.T) {
	lengths := []int{0, 1, 2, 3, 255, 256, 257, 511, 512, 513, 767, 768, 769, 1500}
	var around []int
	for _, n := range []int{-1500, -768, -512, -256, 0, 256, 512, 768, 1024} {
		for off := -3; off <= 3; off++ {
			around = append(around, n+off)
		}
	}
	for _, at := range append(around, ends...) {
		for _, n := range lengths {
			d, r := both(t, drawn(22, 3*blockLen))
			run(t, turning(at, drawn(23, n)), d, r)
			run(t, writing(1, row(24)), d, r) // what is turned under it isn't seen
			run(t, turning(at, drawn(25, n)), d, r)
			if got, _ := d.Read(1); !bytes.Equal(got, row(24)) {
				t.Fatalf("%d bytes turned at %d: a write that waits isn't seen", n, at)
			}
			image := d.Image()
			for i, x := range drawn(25, n) {
				if place := at + i; at > -far && at < far && place >= 0 && place < len(image) && image[place] != x {
					t.Fatalf("%d bytes turned at %d: place %d isn't", n, at, place)
				}
			}
			if n%2 == 0 {
				run(t, syncing(), d, r)
			} else {
				run(t, crashing(nil), d, r)
			}
		}
	}
}

// P9.3: to turn bytes is no act, and it is done while the power is gone, too; a disk without blocks has no places.
func TestTurnedBytesWhileThePowerIsGone(t *testing.T) {
	for _, blocks := range []int{0, 1, 2, maxBlocks} {
		d, r := both(t, drawn(26, blocks*blockLen))
		run(t, arming(1), d, r)
		for _, at := range []int{-5, 0, 250, blocks*blockLen - 5} {
			run(t, turning(at, drawn(27, 20)), d, r)
			run(t, turning(at, nil), d, r)
		}
		if d.Down() {
			t.Errorf("%d blocks: to turn bytes is an act", blocks)
		}
		run(t, syncing(), d, r)
		for _, at := range append([]int{-3, 7, blocks*blockLen - 1}, ends...) {
			run(t, turning(at, drawn(28, 40)), d, r)
		}
		run(t, turning(-far/2, drawn(29, 10)), d, r)
		run(t, turning(-10, drawn(30, maxBlocks*blockLen+20)), d, r)
		if !d.Down() {
			t.Errorf("%d blocks: to turn bytes brings the power back", blocks)
		}
		run(t, crashing(nil), d, r)
	}
}

// P9.3: under a write that waits bytes are turned, though they aren't seen: they are once it is lost, and aren't if it is kept.
func TestTurnedBytesUnderAWrite(t *testing.T) {
	for _, kept := range []bool{false, true} {
		d := disk.New(2)
		d.Write(0, row(31))
		d.Tamper(blockLen-1, []byte{7, 8})
		b, _ := d.Read(0)
		next, _ := d.Read(1)
		if !bytes.Equal(b, row(31)) || next[0] != 8 || d.Image()[blockLen-1] != 7 {
			t.Error("turned bytes are seen where a write waits, or aren't where none does")
		}
		d.Crash([]bool{kept})
		want := make([]byte, blockLen)
		want[blockLen-1] = 7
		if kept {
			want = row(31)
		}
		if b, _ := d.Read(0); !bytes.Equal(b, want) {
			t.Errorf("kept: %v: % x.. is seen", kept, b[:4])
		}
	}
}

// P9.2, P9.3: behind each step of long scripts of all calls a disk is what is reckoned of it, and so is the disk that is loaded of its image.
func TestDrawnScripts(t *testing.T) {
	for seed := range int64(300) {
		r := rand.New(rand.NewSource(seed))
		d, want := both(t, drawn(seed, r.Intn(6)*blockLen))
		for range 150 {
			run(t, drawnStep(r, want.Blocks(), want.Waiting()), d, want)
			if r.Intn(40) == 0 {
				d, want = both(t, d.Image())
			}
		}
	}
}

// P9.2, P9.3: what waits behind a script, write by write: the script is done again for each, and that one alone is kept.
func TestWhatWaitsBehindAScript(t *testing.T) {
	for seed := range int64(60) {
		r := rand.New(rand.NewSource(1000 + seed))
		image := drawn(seed, (1+r.Intn(4))*blockLen)
		d, want := both(t, image)
		var script []step
		for range 60 {
			s := drawnStep(r, want.Blocks(), want.Waiting())
			script = append(script, s)
			run(t, s, d, want)
		}
		for i := range want.Waiting() + 1 {
			again, wanted := both(t, image)
			for _, s := range script {
				if s.do(again) != s.do(wanted) {
					t.Fatalf("script %d: %s: other codes", seed, s.name)
				}
			}
			keep := make([]bool, i+1)
			keep[i] = true
			run(t, crashing(keep), again, wanted)
		}
	}
}

// P9.4: what is safe stays, however often the power goes, and whatever waits.
func TestWhatIsSafeStays(t *testing.T) {
	for seed := range int64(40) {
		r := rand.New(rand.NewSource(2000 + seed))
		d := disk.New(4)
		for block := range 4 {
			d.Write(block, drawn(seed+int64(block), blockLen))
		}
		if d.Sync() != api.OK {
			t.Fatal("Sync isn't done")
		}
		safe := d.Image()
		for block := range 4 {
			if !bytes.Equal(safe[block*blockLen:][:blockLen], drawn(seed+int64(block), blockLen)) {
				t.Fatalf("block %d: what was synced isn't safe", block)
			}
		}
		for range 20 {
			count := r.Intn(12)
			d.Arm(r.Intn(count + 2))
			for range count {
				d.Write(r.Intn(4), drawn(r.Int63(), blockLen))
			}
			if d.Arm(1); d.Sync() != api.ErrDown {
				t.Fatal("the power isn't gone")
			}
			d.Crash(make([]bool, r.Intn(15)))
			if !bytes.Equal(d.Image(), safe) || !bytes.Equal(whole(t, d), safe) {
				t.Fatal("what was safe is lost")
			}
		}
	}
}

// P9.4: behind a Sync that answered OK all that is seen is safe, whatever came before: it is the image, and what is seen behind a loss.
func TestBehindASyncAllThatIsSeenIsSafe(t *testing.T) {
	for seed := range int64(200) {
		r := rand.New(rand.NewSource(3000 + seed))
		d, want := both(t, drawn(seed, (1+r.Intn(4))*blockLen))
		for range 40 {
			run(t, drawnStep(r, want.Blocks(), want.Waiting()), d, want)
			seen := whole(t, d)
			if d.Sync() != want.Sync() {
				t.Fatal("Sync: other codes")
			}
			if d.Down() {
				continue
			}
			if d.Waiting() != 0 || !bytes.Equal(d.Image(), seen) || !bytes.Equal(whole(t, d), seen) {
				t.Fatal("behind a Sync what is seen isn't safe")
			}
			if r.Intn(4) == 0 {
				d.Crash(nil)
				want.Crash(nil)
				if !bytes.Equal(whole(t, d), seen) {
					t.Fatal("behind a loss what was synced isn't seen")
				}
			}
		}
	}
}

// A disk that is loaded of another one's image shares nothing with it: neither bytes, nor what waits, nor the power.
func TestLoadedDisksShareNothing(t *testing.T) {
	first, wantFirst := both(t, drawn(32, 3*blockLen))
	run(t, writing(1, row(33)), first, wantFirst)
	image := first.Image()
	second, wantSecond := both(t, image)
	third, wantThird := both(t, image)
	alike := func(what string) {
		t.Helper()
		same(t, what, first, wantFirst)
		same(t, what, second, wantSecond)
		same(t, what, third, wantThird)
	}
	alike("Load")
	for i, s := range []step{turning(0, row(34)), arming(3), writing(0, row(35)), syncing(), turning(600, row(36)), writing(2, row(37)), crashing([]bool{true})} {
		run(t, s, first, wantFirst)
		alike(s.name + " on the first one")
		if i%2 == 0 {
			run(t, writing(i%3, drawn(int64(700+i), blockLen)), second, wantSecond)
		} else {
			run(t, syncing(), second, wantSecond)
		}
		alike("a step on the second one")
	}
	clear(image)
	alike("an image that was written over")
}

// What is handed in stays as it was, its spare room too, and isn't kept: written over behind a call it is no other disk's bytes.
func TestWhatIsHandedIn(t *testing.T) {
	roomy := func(seed int64, n int) []byte { return drawn(seed, n+100)[:n] }
	unchanged := func(b []byte, seed int64) {
		t.Helper()
		if !bytes.Equal(b[:cap(b)][:len(b)+100], drawn(seed, len(b)+100)) {
			t.Errorf("%d bytes that were handed in are changed", len(b))
		}
		clear(b[:cap(b)])
	}
	image, data, over := roomy(40, 3*blockLen), roomy(41, blockLen), roomy(42, 300)
	keep := []bool{true, false, true}[:2]
	d, code := disk.Load(image)
	unchanged(image, 40)
	want := reckon(drawn(40, 3*blockLen+100)[:3*blockLen])
	if code != api.OK || d.Write(1, data) != api.OK {
		t.Fatal("what may be isn't done")
	}
	unchanged(data, 41)
	want.Write(1, drawn(41, blockLen))
	same(t, "Write", d, want)
	for _, at := range []int{-30, 200, 2*blockLen + 100} {
		over = roomy(42, 300)
		d.Tamper(at, over)
		unchanged(over, 42)
		want.Tamper(at, drawn(42, 300))
		same(t, "Tamper", d, want)
	}
	d.Crash(keep)
	want.Crash([]bool{true})
	if !slices.Equal(keep[:3], []bool{true, false, true}) {
		t.Error("what is kept, which was handed in, is changed")
	}
	keep[0], keep[1] = false, true
	same(t, "Crash", d, want)
}

// What a call hands back is new memory each time: written over, its spare room too, it changes neither the disk nor another answer.
func TestAnswersAreNewMemory(t *testing.T) {
	spoil := func(b []byte) {
		for i := range b[:cap(b)] {
			b[:cap(b)][i] ^= 0xff
		}
	}
	for _, blocks := range []int{1, 3, maxBlocks} {
		d, want := both(t, drawn(50, blocks*blockLen))
		run(t, writing(blocks-1, row(51)), d, want)
		for range 3 {
			for _, block := range []int{0, blocks - 1} {
				first, _ := d.Read(block)
				second, _ := d.Read(block)
				kept := bytes.Clone(second)
				spoil(first)
				if !bytes.Equal(second, kept) {
					t.Errorf("block %d: two answers share memory", block)
				}
				spoil(second)
				same(t, "Read", d, want)
			}
			first, second := d.Image(), d.Image()
			kept := bytes.Clone(second)
			spoil(first)
			if !bytes.Equal(second, kept) {
				t.Error("two images share memory")
			}
			spoil(second)
			same(t, "Image", d, want)
			run(t, syncing(), d, want)
		}
	}
}

// The same calls make the same safe bytes, whatever other disks are given meanwhile.
func TestSameCallsMakeTheSameDisk(t *testing.T) {
	for seed := range int64(20) {
		var images [][]byte
		for range 2 {
			r := rand.New(rand.NewSource(4000 + seed))
			d, other := disk.New(3), disk.New(3)
			for range 100 {
				drawnStep(r, 3, d.Waiting()).do(d)
				other.Write(0, row(60))
				other.Tamper(blockLen, row(61))
				other.Arm(1)
			}
			images = append(images, d.Image(), whole(t, d))
		}
		if !bytes.Equal(images[0], images[2]) || !bytes.Equal(images[1], images[3]) {
			t.Errorf("script %d: other bytes when it is done again", seed)
		}
	}
}

// stays: that a disk isn't armed: many acts are done.
func stays(t *testing.T, d *disk.Disk) {
	t.Helper()
	for i := range 120 {
		code := d.Sync()
		if i%2 == 0 && d.Blocks() > 0 {
			code = d.Write(0, drawn(int64(i), blockLen))
		}
		if code != api.OK || d.Down() {
			t.Fatalf("act %d: code %d, the power is gone: %v", i+1, code, d.Down())
		}
	}
}

// whole: all blocks as seen.
func whole(t *testing.T, d *disk.Disk) []byte {
	t.Helper()
	var out []byte
	for block := range d.Blocks() {
		b, code := d.Read(block)
		if code != api.OK || len(b) != blockLen {
			t.Fatalf("block %d: %d bytes, code %d", block, len(b), code)
		}
		out = append(out, b...)
	}
	return out
}

func writing(block int, b []byte) step {
	return step{"Write", func(d device) api.Code { return d.Write(block, b) }}
}

func syncing() step { return step{"Sync", func(d device) api.Code { return d.Sync() }} }

func arming(n int) step {
	return step{"Arm", func(d device) api.Code { d.Arm(n); return api.OK }}
}

func crashing(keep []bool) step {
	return step{"Crash", func(d device) api.Code { d.Crash(keep); return api.OK }}
}

func turning(at int, b []byte) step {
	return step{"Tamper", func(d device) api.Code { d.Tamper(at, b); return api.OK }}
}

// row: a block's bytes, the same for the same seed.
func row(seed int64) []byte { return drawn(seed, blockLen) }

func drawn(seed int64, n int) []byte {
	b := make([]byte, n)
	rand.New(rand.NewSource(seed)).Read(b)
	return b
}
