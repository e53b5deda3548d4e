package cas_test

import (
	"bytes"
	"fmt"
	"maps"
	"math/rand"
	"slices"
	"strings"
	"testing"

	"orlop/api"
)

// keeps: of so many writes that wait, which survive: none, all, the first ones, all but one, and some that are drawn.
func keeps(r *rand.Rand, waiting int) [][]bool {
	all := slices.Repeat([]bool{true}, waiting)
	out := [][]bool{nil, all}
	for range min(waiting, 3) {
		but, some := slices.Clone(all), make([]bool, waiting)
		but[r.Intn(waiting)] = false
		for i := range some {
			some[i] = r.Intn(2) == 0
		}
		out = append(out, but, some, all[:r.Intn(waiting)])
	}
	return out
}

// losses: a deed, again and again, with the power going in each of its acts; opened anew all is as ahead of it, or as behind it; both come about. (That it answers as it must, and does just one Commit, held sees.)
func (h *held) losses(deed func() api.Code) {
	h.t.Helper()
	image, files := h.d.Image(), maps.Clone(h.want)
	again := func(act int) (api.Code, bool) {
		h.t.Helper()
		h.want, h.behind = maps.Clone(files), maps.Clone(files)
		h.open(image)
		h.arm(act)
		code := deed()
		if down := h.d.Down(); down != (code == api.ErrDown) || !down && code != api.OK {
			h.t.Fatalf("act %d: code %d, the power is gone: %v", act, code, down)
		}
		return code, h.d.Down()
	}
	again(0)
	behind := maps.Clone(h.want)
	r := rand.New(rand.NewSource(1))
	undone, done := 0, 0
	for act, down := 1, true; down; act++ {
		_, down = again(act)
		for i, keep := range keeps(r, h.d.Waiting()) {
			if i > 0 {
				again(act)
			}
			switch h.crash(keep); {
			case maps.Equal(h.want, behind):
				done++
			case maps.Equal(h.want, files) && down:
				undone++
			default:
				h.t.Fatalf("act %d: files %q", act, h.want)
			}
		}
	}
	if undone < 50 || done < 20 {
		h.t.Errorf("%d times it was undone, %d times done", undone, done)
	}
}

// P13.2, P13.3: wherever the power goes in a Commit, a Sweep, or a Fsck, all of it is there, or none.
func TestLossesOfPower(t *testing.T) {
	each(t, 20, func(t *testing.T, h *held) {
		b := h.begin()
		x, y, z := b.put("x"), b.put(drawn(1, 300)), b.put(drawn(2, 20))
		b.set("index", "before")
		b.set("old", "old")
		b.done()
		h.lay(put("q"+drawn(3, 32), "aside"), put("q"+y, "aside"))
		h.spoil("b"+y, 280)
		h.spoil("b"+z, 0)
		for _, deed := range []func() api.Code{
			func() api.Code {
				b := h.begin()
				b.put("x")
				b.put(drawn(2, 20))
				b.put(drawn(4, 500))
				b.set("index", "behind")
				b.drop("old")
				b.set("new", "new")
				return b.commit()
			},
			func() api.Code { _, code := h.sweep(x, drawn(5, 32)); return code },
			func() api.Code { _, code := h.fsck(); return code },
		} {
			image, files := h.d.Image(), maps.Clone(h.want)
			h.losses(deed)
			h.want, h.behind = files, maps.Clone(files)
			h.open(image)
		}
	})
}

// drawing is blobs on which all calls are made, drawn.
type drawing struct {
	*held
	r       *rand.Rand
	batches []*waiting
	codes   map[string]int // how often each call came out so
}

// text: one of some blobs.
func (d *drawing) text() string {
	seed := d.r.Int63n(9)
	return drawn(seed, []int{0, 1, 5, 255, 256, 257, 300, 600, 40}[seed])
}

// digest: one of a blob, or another one.
func (d *drawing) digest() string {
	list := d.digests('b')
	switch d.r.Intn(8) {
	case 0:
		return drawn(d.r.Int63n(3), d.r.Intn(40))
	case 1:
		return drawn(d.r.Int63n(3), sumLen)
	case 2:
		list = append(list, d.digests('q')...)
	}
	if len(list) == 0 {
		return strings.Repeat("\xff", sumLen)
	}
	return list[d.r.Intn(len(list))]
}

// name: one of a file.
func (d *drawing) name() string {
	names := []string{"index", "f", "g", "b", "q", "\x00", "\xff", "b" + d.digest(), "q" + d.digest(), "c" + d.digest(), "b" + d.digest(), strings.Repeat("n", maxName)}
	if d.r.Intn(20) == 0 {
		names = []string{"", strings.Repeat("n", maxName+1)}
	}
	return names[d.r.Intn(len(names))]
}

func (d *drawing) batch() *waiting { return d.batches[d.r.Intn(len(d.batches))] }

func (d *drawing) count(call string, code api.Code) { d.codes[fmt.Sprint(call, code)]++ }

// commit: one of them is done, and no more used.
func (d *drawing) commit() {
	i := d.r.Intn(len(d.batches))
	d.count("commit", d.batches[i].commit())
	d.batches[i] = d.begin()
}

func (d *drawing) renew() { d.batches = []*waiting{d.begin(), d.begin(), d.begin()} }

// turn: some bytes are turned.
func (d *drawing) turn() {
	blocks := d.d.Blocks() - bytesFrom
	at := (bytesFrom+d.r.Intn(blocks))*blockLen + []int{0, 0, d.r.Intn(40), d.r.Intn(blockLen)}[d.r.Intn(4)]
	image := d.d.Image()[at:]
	b := bytes.Clone(image[:min(len(image), 1+d.r.Intn(3))])
	turnAll(b)
	d.tamper(at, b)
}

func (d *drawing) lose() {
	if !d.d.Down() && d.r.Intn(2) == 0 {
		d.arm(1 + d.r.Intn(90))
		return
	}
	keep := make([]bool, d.d.Waiting())
	for i := range keep {
		keep[i] = d.r.Intn(3) > 0
	}
	if d.d.Down() {
		d.count(fmt.Sprint("done ", d.crash(keep)), 0)
	} else {
		d.crash(keep)
	}
	d.renew()
}

func (d *drawing) step() {
	d.t.Helper()
	switch n := d.r.Intn(100); {
	case n < 20:
		d.batch().put(d.text())
	case n < 30:
		d.batch().set(d.name(), d.text())
	case n < 38:
		d.batch().drop(d.name())
	case n < 50:
		d.commit()
	case n < 65:
		d.count("get", d.get(d.digest()))
	case n < 72:
		d.has(d.digest())
	case n < 76:
		live := slices.DeleteFunc(d.digests('b'), func(string) bool { return d.r.Intn(3) == 0 })
		_, code := d.sweep(append(live, d.digest(), d.digest())...)
		d.count("sweep", code)
	case n < 82:
		_, code := d.fsck()
		d.count("fsck", code)
	case n < 94:
		if !d.d.Down() {
			d.turn()
		}
	default:
		d.lose()
	}
}

// P13.1 to P13.4: long scripts of all calls, drawn, with turned bytes and losses of power, held to blobs kept another way.
func TestDrawnScripts(t *testing.T) {
	codes := map[string]int{}
	for seed := range int64(12) {
		each(t, []int{3, 8, 14, 60}[seed%4], func(t *testing.T, h *held) {
			d := &drawing{held: h, r: rand.New(rand.NewSource(seed)), codes: codes}
			d.renew()
			for range 600 {
				d.step()
			}
		})
	}
	for _, outcome := range []string{"commit0", "commit1", "commit2", "commit11", "get0", "get4", "get6", "sweep0", "sweep11", "fsck0", "fsck2", "fsck11", "done true0", "done false0"} {
		if codes[outcome] < 10 {
			t.Errorf("%s came about %d times", outcome, codes[outcome])
		}
	}
}
