package disk_test

import (
	"bytes"
	"math/rand"
	"slices"
	"strings"
	"testing"

	"orlop/api"
	"orlop/disk"
)

// device: what a disk does, and what is reckoned of one.
type device interface {
	Blocks() int
	Write(block int, b []byte) api.Code
	Read(block int) ([]byte, api.Code)
	Sync() api.Code
	Arm(n int)
	Down() bool
	Waiting() int
	Crash(keep []bool)
	Tamper(at int, b []byte)
	Image() []byte
}

// reckoned: a disk reckoned another way. Each block has a pile of its own; acts are counted from the disk's beginning on, and so is the one in which the power goes.
type reckoned struct {
	piles []pile
	last  int // the number of the last write that waits
	acts  int
	goes  int // the act in which the power goes; 0, if it goes in none
	gone  bool
}

// pile: a block's safe bytes, and the writes that wait for it, the last on top.
type pile struct {
	safe string
	over []numbered
}

// numbered: a write's bytes, and its number among all that wait, from 1 on.
type numbered struct {
	number int
	text   string
}

func reckon(image []byte) *reckoned {
	r := &reckoned{}
	for part := range slices.Chunk(image, blockLen) {
		r.piles = append(r.piles, pile{safe: string(part)})
	}
	return r
}

func (r *reckoned) Blocks() int  { return len(r.piles) }
func (r *reckoned) Down() bool   { return r.gone }
func (r *reckoned) Waiting() int { return r.last }

func (r *reckoned) Write(block int, b []byte) api.Code {
	switch {
	case block < 0, block > len(r.piles)-1, len(b) != blockLen:
		return api.ErrArg
	case r.gone:
		return api.ErrDown
	}
	r.last++
	r.piles[block].over = append(r.piles[block].over, numbered{r.last, string(b)})
	return r.act()
}

func (r *reckoned) Read(block int) ([]byte, api.Code) {
	if block < 0 || block > len(r.piles)-1 {
		return nil, api.ErrArg
	}
	p := r.piles[block]
	if n := len(p.over); n > 0 {
		return []byte(p.over[n-1].text), api.OK
	}
	return []byte(p.safe), api.OK
}

func (r *reckoned) Sync() api.Code {
	if r.gone {
		return api.ErrDown
	}
	code := r.act()
	if code == api.OK {
		r.settle(func(int) bool { return true })
	}
	return code
}

func (r *reckoned) Arm(n int) {
	r.goes = 0
	if n > 0 && n < far {
		r.goes = r.acts + n
	}
}

func (r *reckoned) Crash(keep []bool) {
	r.settle(func(number int) bool { return number <= len(keep) && keep[number-1] })
	r.goes, r.gone = 0, false
}

func (r *reckoned) Tamper(at int, b []byte) {
	if at < -far || at > far {
		return
	}
	for i, x := range b {
		if place := at + i; place >= 0 && place < len(r.piles)*blockLen {
			turned := []byte(r.piles[place/blockLen].safe)
			turned[place%blockLen] = x
			r.piles[place/blockLen].safe = string(turned)
		}
	}
}

func (r *reckoned) Image() []byte {
	var all strings.Builder
	for _, p := range r.piles {
		all.WriteString(p.safe)
	}
	return []byte(all.String())
}

func (r *reckoned) act() api.Code {
	r.acts++
	if r.acts == r.goes {
		r.gone = true
		return api.ErrDown
	}
	return api.OK
}

// settle: of each block the last write whose number is kept becomes safe, and nothing waits.
func (r *reckoned) settle(kept func(int) bool) {
	for i := range r.piles {
		for _, w := range r.piles[i].over {
			if kept(w.number) {
				r.piles[i].safe = w.text
			}
		}
		r.piles[i].over = nil
	}
	r.last = 0
}

// step: a call, so that it can be done on several devices.
type step struct {
	name string
	do   func(device) api.Code
}

// drawnStep: a call of any kind, with arguments of any kind, for a disk of so many blocks for which so many writes wait.
func drawnStep(r *rand.Rand, blocks, waiting int) step {
	switch kind := r.Intn(20); {
	case kind < 9:
		block, b := r.Intn(max(blocks, 1)), drawn(r.Int63(), blockLen)
		return step{"Write", func(d device) api.Code { return d.Write(block, b) }}
	case kind < 11:
		block, b := drawnNumber(r, blocks), drawn(r.Int63(), blockLen-1+r.Intn(3))
		return step{"Write of any bytes", func(d device) api.Code { return d.Write(block, b) }}
	case kind < 13:
		return step{"Sync", func(d device) api.Code { return d.Sync() }}
	case kind < 15:
		n := drawnNumber(r, 12)
		return step{"Arm", func(d device) api.Code { d.Arm(n); return api.OK }}
	case kind < 17:
		keep := make([]bool, r.Intn(waiting+4))
		for i := range keep {
			keep[i] = r.Intn(2) == 0
		}
		return step{"Crash", func(d device) api.Code { d.Crash(keep); return api.OK }}
	default:
		at, b := drawnNumber(r, blocks*blockLen), drawn(r.Int63(), r.Intn(3*blockLen))
		return step{"Tamper", func(d device) api.Code { d.Tamper(at, b); return api.OK }}
	}
}

// drawnNumber: mostly one below n, or not far from those; sometimes one at the ends of all numbers.
func drawnNumber(r *rand.Rand, n int) int {
	if r.Intn(12) == 0 {
		return ends[r.Intn(len(ends))]
	}
	return r.Intn(n+9) - 4
}

// both: a disk and what is reckoned of it, with the same safe bytes.
func both(t *testing.T, image []byte) (*disk.Disk, *reckoned) {
	t.Helper()
	d, code := disk.Load(image)
	if code != api.OK || d == nil {
		t.Fatalf("an image of %d bytes: code %d", len(image), code)
	}
	return d, reckon(image)
}

// run: a step, done on both, which must tell the same and then be the same.
func run(t *testing.T, s step, d *disk.Disk, r *reckoned) {
	t.Helper()
	if got, want := s.do(d), s.do(r); got != want {
		t.Fatalf("%s: code %d, not %d", s.name, got, want)
	}
	same(t, s.name, d, r)
}

// same: that a disk tells in all its parts what is reckoned of it.
func same(t *testing.T, what string, d *disk.Disk, r *reckoned) {
	t.Helper()
	if d.Blocks() != r.Blocks() || d.Down() != r.Down() || d.Waiting() != r.Waiting() {
		t.Fatalf("behind %s: %d blocks, %d writes wait, gone: %v; not %d, %d, %v", what, d.Blocks(), d.Waiting(), d.Down(), r.Blocks(), r.Waiting(), r.Down())
	}
	if !bytes.Equal(d.Image(), r.Image()) {
		t.Fatalf("behind %s: other safe bytes", what)
	}
	for block := -1; block <= r.Blocks(); block++ {
		got, code := d.Read(block)
		want, wanted := r.Read(block)
		if code != wanted || !bytes.Equal(got, want) {
			t.Fatalf("behind %s: block %d: %d bytes, first % x, code %d, not % x, code %d", what, block, len(got), got[:min(len(got), 8)], code, want[:min(len(want), 8)], wanted)
		}
	}
}
