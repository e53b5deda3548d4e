package file

import (
	"bytes"
	"maps"
	"slices"

	"orlop/api"
	"orlop/sha"
	"orlop/word"
)

// The first MetaBlocks blocks tell of the files: a digest of all that is behind it; for each file, by rising names, a row with its name and how long it is; and for each block for bytes which row's file takes it, from 1 on, or 0. A file's bytes lie in its blocks from the least number on. Bytes 0 tell of no files. (The digest is for bytes that somebody turned.)
const (
	rowsAt   = api.KeyLen
	nameAt   = 1 // in a row, behind the name's length
	sizeAt   = nameAt + api.MaxFileName
	rowLen   = sizeAt + 4
	takersAt = rowsAt + api.MaxFiles*rowLen
	metaLen  = api.MetaBlocks * api.BlockLen
)

// table: where each file lies.
type table map[string]place

// place: how many bytes a file has, and in which blocks for bytes they lie, by rising numbers.
type place struct {
	size   int
	blocks []int
}

// need: how many blocks so many bytes need.
func need(size int) int { return (size + api.BlockLen - 1) / api.BlockLen }

// names: all names, rising.
func (t table) names() []string { return slices.Sorted(maps.Keys(t)) }

// taken: which blocks for bytes a file takes.
func (t table) taken() [api.MaxData]bool {
	var out [api.MaxData]bool
	for _, p := range t {
		for _, block := range p.blocks {
			out[block] = true
		}
	}
	return out
}

// told: the files of which bytes tell, on a disk with so many blocks for bytes; or false, if these bytes tell of none so.
func told(meta []byte, blocks int) (table, bool) {
	names, sizes := rows(meta)
	lists := make([][]int, len(names))
	for block, taker := range meta[takersAt:][:blocks] {
		if int(taker) > len(names) {
			return nil, false
		}
		if taker > 0 {
			lists[taker-1] = append(lists[taker-1], block)
		}
	}
	t := table{}
	for i, name := range names {
		if len(name) > api.MaxFileName || len(lists[i]) != need(sizes[i]) {
			return nil, false
		}
		t[name] = place{sizes[i], lists[i]}
	}
	return t, bytes.Equal(t.bytes(), meta)
}

// rows: the names and the sizes of which the rows tell, up to the first one without a name.
func rows(meta []byte) ([]string, []int) {
	var names []string
	var sizes []int
	for i := range api.MaxFiles {
		row := meta[rowsAt+i*rowLen:]
		if row[0] == 0 {
			break
		}
		names = append(names, string(row[nameAt:][:row[0]]))
		sizes = append(sizes, int(word.Get32(row[sizeAt:])))
	}
	return names, sizes
}

// bytes: what tells of the files.
func (t table) bytes() []byte {
	meta := make([]byte, metaLen)
	if len(t) == 0 {
		return meta
	}
	for i, name := range t.names() {
		row := meta[rowsAt+i*rowLen:]
		row[0] = byte(len(name))
		copy(row[nameAt:], name)
		copy(row[sizeAt:], word.Put32(uint32(t[name].size)))
		for _, block := range t[name].blocks {
			meta[takersAt+block] = byte(i + 1)
		}
	}
	copy(meta, sha.Of(meta[rowsAt:]))
	return meta
}

// changes: all blocks that tell of the files, also those that are as they were: so nothing of what was told before stays in the journal.
func (t table) changes() []api.Change {
	var list []api.Change
	for b := range slices.Chunk(t.bytes(), api.BlockLen) {
		list = append(list, api.Change{Block: len(list), Data: b})
	}
	return list
}
