package word_test

import (
	"bytes"
	"os"
	"runtime/debug"
	"syscall"
	"testing"

	"orlop/word"
)

// P1.2: Equal looks at all bytes, whatever they are. No answer tells that, and a clock tells it badly; but if the last byte is one that may not be read, whoever looks at it is stopped.
func TestEqualLooksAtAllBytes(t *testing.T) {
	const n = 70
	held := rowBeforeForbiddenByte(t, n)
	copy(held[:n], row(n))
	other := append(row(n), 0)
	if !isStopped(held, other) {
		t.Error("like bytes: the last one isn't looked at")
	}
	for at := range n {
		unlike := bytes.Clone(other)
		unlike[at] ^= 0xff
		if !isStopped(held, unlike) || !isStopped(unlike, held) {
			t.Errorf("unlike at %d: the last byte isn't looked at", at)
		}
	}
}

// rowBeforeForbiddenByte: n bytes, and one more, which may not be read.
func rowBeforeForbiddenByte(t *testing.T, n int) []byte {
	page := os.Getpagesize()
	room, err := syscall.Mmap(-1, 0, 2*page, syscall.PROT_READ|syscall.PROT_WRITE, syscall.MAP_ANON|syscall.MAP_PRIVATE)
	if err != nil {
		t.Fatal(err)
	}
	t.Cleanup(func() { syscall.Munmap(room) })
	if err := syscall.Mprotect(room[page:], syscall.PROT_NONE); err != nil {
		t.Fatal(err)
	}
	return room[page-n : page+1]
}

// answer is where Equal's answers go: else the compiler might leave the call out.
var answer bool

func isStopped(a, b []byte) (stopped bool) {
	defer debug.SetPanicOnFault(debug.SetPanicOnFault(true))
	defer func() { stopped = recover() != nil }()
	answer = word.Equal(a, b)
	return false
}
