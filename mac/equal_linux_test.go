package mac_test

import (
	"bytes"
	"os"
	"runtime/debug"
	"syscall"
	"testing"

	"garderobe/mac"
)

// guarded returns two pages of zero bytes of which one, the first or the second, can't be read.
func guarded(t *testing.T, second bool) (memory []byte, page int) {
	t.Helper()
	page = os.Getpagesize()
	memory, err := syscall.Mmap(-1, 0, 2*page, syscall.PROT_READ|syscall.PROT_WRITE, syscall.MAP_ANON|syscall.MAP_PRIVATE)
	if err != nil {
		t.Fatal(err)
	}
	t.Cleanup(func() {
		if err := syscall.Munmap(memory); err != nil {
			t.Error(err)
		}
	})
	closed := memory[:page]
	if second {
		closed = memory[page:]
	}
	if err := syscall.Mprotect(closed, syscall.PROT_NONE); err != nil {
		t.Fatal(err)
	}
	return memory, page
}

// The result of Equal is kept here: the compiler leaves out reads whose result nobody uses.
var result bool

// reads tells whether Equal reads bytes of a and b that can't be read.
func reads(a, b []byte) (faulted bool) {
	defer debug.SetPanicOnFault(debug.SetPanicOnFault(true))
	defer func() { faulted = recover() != nil }()
	result = mac.Equal(a, b)
	return false
}

// P6.2: all bytes of both are examined, whatever the other ones are and however long the other slice is.
// A byte was examined if there is a fault once it can't be read.
func TestEqualExaminesAll(t *testing.T) {
	last, page := guarded(t, true)
	first, _ := guarded(t, false)
	for _, n := range []int{1, 2, 8, 9, 32, 33, 64, 65, 200, 1000} {
		readable := last[page-n : page]
		lastClosed := last[page-n+1 : page+1]
		firstClosed := first[page-1 : page+n-1]
		for _, m := range []int{0, 1, n - 1, n, n + 1, 2 * n} {
			for _, fill := range []byte{0, 1, 0xff} {
				other := bytes.Repeat([]byte{fill}, m)
				if reads(readable, other) || reads(other, readable) {
					t.Fatalf("%d bytes and %d of %d: bytes beyond are read", n, m, fill)
				}
				if !reads(lastClosed, other) || !reads(other, lastClosed) {
					t.Fatalf("%d bytes and %d of %d: the last one is not examined", n, m, fill)
				}
				if !reads(firstClosed, other) || !reads(other, firstClosed) {
					t.Fatalf("%d bytes and %d of %d: the first one is not examined", n, m, fill)
				}
			}
		}
	}
}
