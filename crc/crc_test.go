package crc_test

import (
	"bytes"
	"hash/crc32"
	"math"
	"math/rand"
	"testing"

	"garderobe/crc"
)

// sample returns n bytes that are the same in every run.
func sample(seed int64, n int) []byte {
	b := make([]byte, n)
	rand.New(rand.NewSource(seed)).Read(b)
	return b
}

// P2.1: known checksums, those of the document among them.
func TestOfKnown(t *testing.T) {
	cases := []struct {
		text string
		want uint32
	}{
		{"", 0},
		{"123456789", 0xCBF43926},
		{"a", 0xE8B7BE43},
		{"abc", 0x352441C2},
		{"\x00", 0xD202EF8D},
		{"\xFF", 0xFF000000},
		{"\xFF\xFF\xFF\xFF", 0xFFFFFFFF},
		{"\x00\x00\x00\x00", 0x2144DF1C},
		{"The quick brown fox jumps over the lazy dog", 0x414FA339},
	}
	for _, c := range cases {
		if got := crc.Of([]byte(c.text)); got != c.want {
			t.Errorf("Of(%q) = %#x, want %#x", c.text, got, c.want)
		}
		if got := crc.More(0, []byte(c.text)); got != c.want {
			t.Errorf("More(0, %q) = %#x, want %#x", c.text, got, c.want)
		}
	}
}

// P2.1: every single byte after several sums, and longer texts, against the library's checksum.
func TestMoreAgainstLibrary(t *testing.T) {
	sums := []uint32{0, 1, 77, 0x80000000, 0xEDB88320, 0xCBF43926, math.MaxUint32 - 1, math.MaxUint32}
	for _, sum := range sums {
		for c := range 256 {
			b := []byte{byte(c)}
			if got, want := crc.More(sum, b), crc32.Update(sum, crc32.IEEETable, b); got != want {
				t.Fatalf("More(%#x, %v) = %#x, want %#x", sum, b, got, want)
			}
		}
		for _, n := range []int{2, 3, 7, 8, 9, 31, 32, 33, 255, 256, 1024, 70000} {
			b := sample(int64(n), n)
			if got, want := crc.More(sum, b), crc32.Update(sum, crc32.IEEETable, b); got != want {
				t.Fatalf("More(%#x, %d bytes) = %#x, want %#x", sum, n, got, want)
			}
		}
	}
}

// P2.1: nothing behind a text leaves its checksum as it is.
func TestMoreOfNothing(t *testing.T) {
	for _, sum := range []uint32{0, 1, 77, 0xCBF43926, math.MaxUint32} {
		if got := crc.More(sum, nil); got != sum {
			t.Errorf("More(%#x, nil) = %#x", sum, got)
		}
		if got := crc.More(sum, []byte{}); got != sum {
			t.Errorf("More(%#x, empty) = %#x", sum, got)
		}
	}
}

// P2.1: Of takes any number of parts, empty and nil ones among them, in their order.
func TestOfParts(t *testing.T) {
	if got := crc.Of(); got != 0 {
		t.Errorf("Of() = %#x", got)
	}
	if got := crc.Of(nil, []byte{}, nil); got != 0 {
		t.Errorf("Of of empty parts = %#x", got)
	}
	const want = 0xCBF43926
	splits := [][][]byte{
		{[]byte("123456789")},
		{[]byte("1"), []byte("23456789")},
		{[]byte("1234"), nil, []byte("5678"), {}, []byte("9")},
		{nil, []byte("12345678"), []byte("9"), nil},
		{[]byte("1"), []byte("2"), []byte("3"), []byte("4"), []byte("5"), []byte("6"), []byte("7"), []byte("8"), []byte("9")},
	}
	for _, parts := range splits {
		if got := crc.Of(parts...); got != want {
			t.Errorf("Of(%q) = %#x, want %#x", parts, got, want)
		}
	}
	if crc.Of([]byte("56789"), []byte("1234")) == want {
		t.Error("the order of the parts makes no difference")
	}
}

// P2.2: the checksum of a concatenation is More of the first one's and the second.
func TestConcatenation(t *testing.T) {
	text := sample(1, 200)
	whole := crc.Of(text)
	for cut := range len(text) + 1 {
		if got := crc.More(crc.Of(text[:cut]), text[cut:]); got != whole {
			t.Fatalf("cut at %d: %#x, want %#x", cut, got, whole)
		}
		if got := crc.Of(text[:cut], text[cut:]); got != whole {
			t.Fatalf("parts cut at %d: %#x, want %#x", cut, got, whole)
		}
	}
}

// flipped returns a copy of b in which the bits of pattern are inverted, from bit first on; bits count from the lowest of a byte.
func flipped(b []byte, first int, pattern uint32) []byte {
	out := bytes.Clone(b)
	for i := range 32 {
		if bit := first + i; pattern>>i&1 == 1 && bit < 8*len(out) {
			out[bit/8] ^= 1 << (bit % 8)
		}
	}
	return out
}

// P2.2: a difference within 32 consecutive bits is always detected.
func TestBurstsDetected(t *testing.T) {
	patterns := []uint32{1, 3, 5, 0x80000001, 0xFFFFFFFF, 0xEDB88320, 0xEDB88321, 0x04C11DB7, 0xDB710641, 0xAAAAAAAA, 0x55555555}
	r := rand.New(rand.NewSource(2))
	for range 100 {
		patterns = append(patterns, r.Uint32()|1)
	}
	for _, n := range []int{4, 5, 32, 61} {
		text := sample(int64(n), n)
		whole := crc.Of(text)
		for first := range 8 * n {
			for _, p := range patterns {
				other := flipped(text, first, p)
				if !bytes.Equal(other, text) && crc.Of(other) == whole {
					t.Fatalf("%d bytes, pattern %#x at bit %d: not detected", n, p, first)
				}
			}
		}
	}
}

// R4 and R5: arguments stay as they are, and results depend on nothing else.
func TestNothingKept(t *testing.T) {
	whole := bytes.Repeat([]byte{0xA5}, 64)
	before := bytes.Clone(whole)
	parts := [][]byte{whole[:9], nil, whole[9:20]}
	first := crc.Of(parts...)
	more := crc.More(first, whole[20:30])
	if !bytes.Equal(whole, before) {
		t.Error("the bytes were changed")
	}
	if len(parts) != 3 || len(parts[0]) != 9 || parts[1] != nil || len(parts[2]) != 11 {
		t.Error("the list of parts was changed")
	}
	crc.Of(sample(3, 100))
	if crc.Of(parts...) != first || crc.More(first, whole[20:30]) != more {
		t.Error("a second call has another result")
	}
}
