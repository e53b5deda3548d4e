package oci

import (
	"bytes"

	"orlop/api"
	"orlop/word"
)

// mark is what a manifest's bytes begin with.
const mark = "OMF1"

const numberLen = 4

// Bytes: a manifest's bytes. ErrArg.
func Bytes(m api.Manifest) ([]byte, api.Code) {
	if !May(m) {
		return nil, api.ErrArg
	}
	w := writer{out: []byte(mark)}
	putList(&w, m.Parts, w.descriptor)
	putList(&w, m.Notes, w.note)
	return w.out, api.OK
}

// FromBytes: the manifest of bytes. ErrFormat. What was read is written again, so that Bytes alone says which bytes are right.
func FromBytes(b []byte) (api.Manifest, api.Code) {
	r := reader{rest: b}
	r.take(len(mark))
	m := api.Manifest{
		Parts: listOf(r.number(api.MaxParts), r.descriptor),
		Notes: listOf(r.number(api.MaxNotes), r.note),
	}
	again, code := Bytes(m)
	if code != api.OK || !bytes.Equal(again, b) {
		return api.Manifest{}, api.ErrFormat
	}
	return m, api.OK
}

// writer is bytes that are being written.
type writer struct{ out []byte }

func (w *writer) number(n int) { w.out = append(w.out, word.Big32(uint32(n))...) }

func (w *writer) text(text string) {
	w.number(len(text))
	w.out = append(w.out, text...)
}

func (w *writer) descriptor(d api.Descriptor) {
	w.text(d.Media)
	w.out = append(w.out, d.Digest...)
	w.number(d.Size)
	putList(w, d.Notes, w.note)
}

func (w *writer) note(n api.Note) {
	w.text(n.Name)
	w.text(n.Text)
}

// putList: how many things a list has, and each, written by one.
func putList[T any](w *writer, list []T, one func(T)) {
	w.number(len(list))
	for _, element := range list {
		one(element)
	}
}

// reader is bytes that are being read: what of them hasn't been. It reads whatever they are, as if they were a manifest's, and only sees to it that little is read of wrong ones: FromBytes finds those by what it writes.
type reader struct{ rest []byte }

// take: the next n bytes, or those that there are.
func (r *reader) take(n int) []byte {
	n = min(n, len(r.rest))
	out := r.rest[:n]
	r.rest = r.rest[n:]
	return out
}

// number: the next number; 0 for one that is greater than it may be.
func (r *reader) number(most uint32) int {
	n := word.GetBig32(r.take(numberLen))
	if n > most {
		return 0
	}
	return int(n)
}

func (r *reader) text() string { return string(r.take(r.number(api.MaxNote))) }

// descriptor: the next one. The bytes lie in order, so that its number in the list tells nothing; so it is with note.
func (r *reader) descriptor(int) api.Descriptor {
	return api.Descriptor{
		Media:  r.text(),
		Digest: bytes.Clone(r.take(api.KeyLen)),
		Size:   r.number(maxSize),
		Notes:  listOf(r.number(api.MaxNotes), r.note),
	}
}

func (r *reader) note(int) api.Note { return api.Note{Name: r.text(), Text: r.text()} }
