package cas

import (
	"bytes"
	"maps"
	"slices"

	"orlop/api"
)

// Batch is changes that wait, by names. Blobs don't lie among the files: which of the two counts under one name can't be told ahead of the Commit.
type Batch struct {
	s     *Cas
	blobs map[string][]byte
	files map[string]api.FileChange
}

// Begin: changes that wait.
func (s *Cas) Begin() *Batch {
	return &Batch{s, map[string][]byte{}, map[string]api.FileChange{}}
}

// Put: a blob waits; its digest.
func (b *Batch) Put(blob []byte) []byte {
	digest := b.s.crypt.Sum(blob)
	b.blobs[Name(digest)] = bytes.Clone(blob)
	return digest
}

// Set: a file waits to be put.
func (b *Batch) Set(name string, data []byte) {
	b.files[name] = api.FileChange{Name: name, Data: bytes.Clone(data)}
}

// Drop: a file waits to go.
func (b *Batch) Drop(name string) { b.files[name] = api.FileChange{Name: name, Gone: true} }

// Commit: all that waits is done. The files' codes.
func (b *Batch) Commit() api.Code {
	changes := b.changes()
	var list []api.FileChange
	for _, name := range slices.Sorted(maps.Keys(changes)) {
		if _, code := b.s.files.Read(name); code == api.OK || !changes[name].Gone {
			list = append(list, changes[name])
		}
	}
	return b.s.files.Commit(list)
}

// changes: what is to be done of each name: of a blob and a file the blob is, unless it is there already.
func (b *Batch) changes() map[string]api.FileChange {
	changes := maps.Clone(b.files)
	for name, blob := range b.blobs {
		data, code := b.s.files.Read(name)
		if code != api.OK || !bytes.Equal(data, blob) {
			changes[name] = api.FileChange{Name: name, Data: blob}
		}
	}
	return changes
}
