package mac_test

import (
	"bytes"
	"crypto/hmac"
	"crypto/sha256"
	"encoding/hex"
	"math/rand"
	"slices"
	"testing"

	"garderobe/mac"
)

// sample returns n bytes that are the same in every run.
func sample(seed int64, n int) []byte {
	b := make([]byte, n)
	rand.New(rand.NewSource(seed)).Read(b)
	return b
}

// agree checks the code of parts against the library's of their concatenation.
func agree(t *testing.T, key []byte, parts ...[]byte) {
	t.Helper()
	oracle := hmac.New(sha256.New, key)
	for _, part := range parts {
		oracle.Write(part)
	}
	if got, want := mac.Of(key, parts...), [32]byte(oracle.Sum(nil)); got != want {
		t.Fatalf("key of %d bytes, %d parts: %x, want %x", len(key), len(parts), got, want)
	}
}

// P6.1: known codes, that of the document and those of RFC 4231.
func TestOfKnown(t *testing.T) {
	counted := make([]byte, 25)
	for i := range counted {
		counted[i] = byte(i + 1)
	}
	cases := []struct {
		key  []byte
		text string
		want string // its beginning
	}{
		{[]byte("key"), "The quick brown fox jumps over the lazy dog", "f7bc83f4"},
		{nil, "", "b613679a0814d9ec772f95d778c35fc5ff1697c493715653c6c712144292c5ad"},
		{bytes.Repeat([]byte{0x0b}, 20), "Hi There", "b0344c61d8db38535ca8afceaf0bf12b881dc200c9833da726e9376c2e32cff7"},
		{[]byte("Jefe"), "what do ya want for nothing?", "5bdcc146bf60754e6a042426089575c75a003f089d2739839dec58b964ec3843"},
		{
			bytes.Repeat([]byte{0xaa}, 20), string(bytes.Repeat([]byte{0xdd}, 50)),
			"773ea91e36800e46854db8ebd09181a72959098b3ef8c122d9635514ced565fe",
		},
		{
			counted, string(bytes.Repeat([]byte{0xcd}, 50)),
			"82558a389a443c0ea4cc819899f2083a85f0faa3e578f8077a2e3ff46729665b",
		},
		{bytes.Repeat([]byte{0x0c}, 20), "Test With Truncation", "a3b6167473100ee06e0c796c2955552b"},
		{
			bytes.Repeat([]byte{0xaa}, 131), "Test Using Larger Than Block-Size Key - Hash Key First",
			"60e431591ee0b67f0d8a26aacbf5b77f8e0bc6213728c5140546040f0ee37f54",
		},
		{
			bytes.Repeat([]byte{0xaa}, 131),
			"This is a test using a larger than block-size key and a larger than block-size data. " +
				"The key needs to be hashed before being used by the HMAC algorithm.",
			"9b09ffa71b942fcb27635fbcd5b0e944bfdc63644f0713938a7f51535c3a35e2",
		},
	}
	for _, c := range cases {
		got := mac.Of(c.key, []byte(c.text))
		if whole := hex.EncodeToString(got[:]); whole[:len(c.want)] != c.want {
			t.Errorf("Of(%.20x, %.20q) = %s, want %s", c.key, c.text, whole, c.want)
		}
	}
}

// P6.1: every length of a key around the ends of the digest and of the block, where its digest takes its place.
func TestKeyLengths(t *testing.T) {
	text := sample(1, 100)
	for n := range 3*64 + 2 {
		agree(t, sample(int64(n), n), text)
		agree(t, make([]byte, n), text)
		agree(t, bytes.Repeat([]byte{0xff}, n), text)
		agree(t, bytes.Repeat([]byte{0x5c}, n), text)
		agree(t, bytes.Repeat([]byte{0x36}, n), text)
	}
	for _, n := range []int{1000, 4096, 65536, 1 << 20} {
		agree(t, sample(int64(n), n), text)
	}
}

// P6.1: a key of 64 bytes is taken as it is, a longer one by its digest.
func TestLongKeys(t *testing.T) {
	text := []byte("text")
	for n := 60; n <= 70; n++ {
		key := sample(2, n)
		digest := sha256.Sum256(key)
		same := mac.Of(key, text) == mac.Of(digest[:], text)
		if same != (n > 64) {
			t.Errorf("a key of %d bytes has the code of its digest: %v", n, same)
		}
	}
}

// P6.1: zero bytes pad a key at its end and up to 64 bytes, no further.
func TestPaddedKeys(t *testing.T) {
	text := []byte("text")
	key := sample(3, 40)
	short := mac.Of(key, text)
	for n := len(key); n <= 70; n++ {
		padded := append(bytes.Clone(key), make([]byte, n-len(key))...)
		if same := mac.Of(padded, text) == short; same != (n <= 64) {
			t.Errorf("a key padded to %d bytes has the code of the key: %v", n, same)
		}
	}
	if mac.Of(append(make([]byte, 24), key...), text) == short {
		t.Error("zero bytes ahead of a key make no difference")
	}
}

// P6.1: each bit of a key counts.
func TestEveryBitOfTheKey(t *testing.T) {
	text := []byte("text")
	for _, n := range []int{1, 32, 64, 65, 130} {
		zero := mac.Of(make([]byte, n), text)
		for bit := range 8 * n {
			key := make([]byte, n)
			key[bit/8] = 1 << (bit % 8)
			agree(t, key, text)
			if mac.Of(key, text) == zero {
				t.Fatalf("key of %d bytes: bit %d makes no difference", n, bit)
			}
		}
	}
}

// P6.1: texts of every length around the ends of the first blocks, and longer ones.
func TestTextLengths(t *testing.T) {
	key := sample(4, 32)
	for n := range 3*64 + 2 {
		agree(t, key, sample(int64(n), n))
		agree(t, key, make([]byte, n))
	}
	for _, n := range []int{4096, 65535, 65536, 1 << 20} {
		agree(t, key, sample(int64(n), n))
	}
}

// P6.1: each bit of a text counts.
func TestEveryBitOfTheText(t *testing.T) {
	key := sample(5, 32)
	for _, n := range []int{1, 55, 64, 130} {
		zero := mac.Of(key, make([]byte, n))
		for bit := range 8 * n {
			text := make([]byte, n)
			text[bit/8] = 1 << (bit % 8)
			agree(t, key, text)
			if mac.Of(key, text) == zero {
				t.Fatalf("text of %d bytes: bit %d makes no difference", n, bit)
			}
		}
	}
}

// P6.1, R1: no key and no parts, empty and nil ones.
func TestNothing(t *testing.T) {
	none := mac.Of(nil)
	agree(t, nil)
	lists := [][][]byte{nil, {}, {nil}, {{}}, {nil, {}, nil}, make([][]byte, 1000)}
	for _, key := range [][]byte{nil, {}} {
		for _, parts := range lists {
			if got := mac.Of(key, parts...); got != none {
				t.Errorf("%d empty parts: %x, want %x", len(parts), got, none)
			}
		}
	}
	key := sample(6, 32)
	agree(t, key)
	agree(t, nil, []byte("text"))
	agree(t, key, nil, []byte("a"), []byte{}, []byte("bc"), nil)
	agree(t, make([]byte, 64))
	agree(t, make([]byte, 65))
}

// P6.1: all parts count, in their order; where they are cut makes no difference.
func TestParts(t *testing.T) {
	key, text := sample(7, 32), sample(8, 150)
	for first := range len(text) + 1 {
		agree(t, key, text[:first], text[first:])
		second := min(first+31, len(text))
		agree(t, key, text[:first], text[first:second], text[second:])
	}
	for size := 1; size <= 130; size++ {
		agree(t, key, slices.Collect(slices.Chunk(text, size))...)
	}
	one, other := text[:70], text[70:]
	agree(t, key, other, one)
	agree(t, key, one, one, other, one)
	if mac.Of(key, one, other) == mac.Of(key, other, one) {
		t.Error("the order of the parts makes no difference")
	}
	if mac.Of(key, one) == mac.Of(key, one, one) {
		t.Error("a second time makes no difference")
	}
}

// P6.1: the key is no part of the text.
func TestKeyIsNoPart(t *testing.T) {
	key, text := sample(9, 32), sample(10, 32)
	agree(t, text, key)
	if mac.Of(key, text) == mac.Of(text, key) {
		t.Error("key and text can be exchanged")
	}
	if mac.Of(key, text) == mac.Of(nil, key, text) {
		t.Error("a key is like a part")
	}
	if mac.Of(key[:16], key[16:], text) == mac.Of(key, text) {
		t.Error("where the key ends makes no difference")
	}
}

// P6.1: keys, texts and cuts of all kinds.
func TestRandom(t *testing.T) {
	r := rand.New(rand.NewSource(11))
	for range 2000 {
		key := make([]byte, r.Intn(140))
		r.Read(key)
		parts := make([][]byte, r.Intn(6))
		for i := range parts {
			parts[i] = make([]byte, r.Intn(140))
			r.Read(parts[i])
		}
		agree(t, key, parts...)
	}
}

// equal checks Equal both ways round.
func equal(t *testing.T, a, b []byte, want bool) {
	t.Helper()
	if mac.Equal(a, b) != want || mac.Equal(b, a) != want {
		t.Fatalf("Equal of %d bytes %.20x and %d bytes %.20x is not %v", len(a), a, len(b), b, want)
	}
}

// P6.2: the same bytes, in one slice and in two.
func TestEqualSame(t *testing.T) {
	for n := range 200 {
		a := sample(int64(n), n)
		equal(t, a, a, true)
		equal(t, a, bytes.Clone(a), true)
		equal(t, make([]byte, n), make([]byte, n), true)
	}
	long := sample(12, 1<<20)
	equal(t, long, bytes.Clone(long), true)
}

// P6.2: one other bit, wherever it is.
func TestEqualOneBit(t *testing.T) {
	for _, n := range []int{1, 2, 7, 8, 9, 16, 31, 32, 33, 64, 65, 130, 300} {
		for _, a := range [][]byte{make([]byte, n), bytes.Repeat([]byte{0xff}, n), sample(int64(n), n)} {
			for bit := range 8 * n {
				b := bytes.Clone(a)
				b[bit/8] ^= 1 << (bit % 8)
				equal(t, a, b, false)
			}
		}
	}
}

// P6.2: differences that would cancel each other in a sum or in an XOR of all bytes.
func TestEqualManyDifferences(t *testing.T) {
	pairs := []struct{ a, b string }{
		{"ab", "ba"}, {"\x01\x02", "\x02\x01"}, {"\x00\x00", "\x01\x01"}, {"\x00\x00", "\x80\x80"},
		{"\x00\x00", "\x01\xff"}, {"\x00\x00\x00", "\x01\x02\x03"}, {"abcabc", "bcabca"}, {"\x00\xff", "\xff\x00"},
	}
	for _, p := range pairs {
		equal(t, []byte(p.a), []byte(p.b), false)
	}
	for n := 1; n <= 520; n++ {
		equal(t, make([]byte, n), bytes.Repeat([]byte{1}, n), false)
		equal(t, make([]byte, n), bytes.Repeat([]byte{0xff}, n), false)
	}
}

// P6.2: every pair of bytes.
func TestEqualEveryByte(t *testing.T) {
	for a := range 256 {
		for b := range 256 {
			equal(t, []byte{byte(a)}, []byte{byte(b)}, a == b)
			equal(t, []byte{7, byte(a), 9}, []byte{7, byte(b), 9}, a == b)
		}
	}
}

// P6.2: other lengths, though the shorter slice is the beginning or the end of the longer one,
// and zero bytes are nothing like no bytes.
func TestEqualLengths(t *testing.T) {
	for _, whole := range [][]byte{sample(13, 70), make([]byte, 70)} {
		for n := range whole {
			equal(t, whole, whole[:n], false)
			equal(t, whole, whole[len(whole)-n:], false)
			equal(t, whole[:n], whole[:n+1], false)
		}
	}
	// Lengths that a byte, or two, could not tell apart.
	for _, n := range []int{256, 512, 65536, 1 << 20} {
		equal(t, nil, make([]byte, n), false)
		equal(t, []byte{1}, append([]byte{1}, make([]byte, n)...), false)
	}
}

// P6.2, R4: nil and empty slices are equal, and equal to nothing else.
func TestEqualNothing(t *testing.T) {
	equal(t, nil, nil, true)
	equal(t, nil, []byte{}, true)
	equal(t, []byte{}, []byte{}, true)
	equal(t, nil, []byte("text")[:0], true)
	for _, b := range [][]byte{{0}, {1}, {0, 0}} {
		equal(t, nil, b, false)
		equal(t, []byte{}, b, false)
	}
}

// P6.2: what lies behind the slices' lengths does not count.
func TestEqualSpareCapacity(t *testing.T) {
	a, b := []byte("same, one"), []byte("same, other")
	equal(t, a[:4], b[:4], true)
	equal(t, a[:4], a[:6], false)
	equal(t, a[:6], b[:8], false)
}

// R4: neither the key nor the parts nor their list are changed, nor what lies behind any of them.
func TestArgumentsStay(t *testing.T) {
	for n := range 150 {
		memory := sample(int64(n), n+130)
		kept := bytes.Clone(memory)
		behind := []byte("behind")
		list := [][]byte{memory[:n], nil, memory[n : n+9], behind, behind, behind}
		mac.Of(memory[:n], list[:3]...)
		mac.Equal(memory[:n], memory[9:n+9])
		mac.Equal(memory[:n], memory[:n+1])
		if !bytes.Equal(memory, kept) {
			t.Fatalf("%d bytes: the bytes were changed", n)
		}
		if len(list[0]) != n || list[1] != nil || len(list[2]) != 9 {
			t.Fatalf("%d bytes: the list of parts was changed", n)
		}
		for _, part := range list[3:] {
			if string(part) != "behind" {
				t.Fatalf("%d bytes: what lies behind the list was changed to %q", n, part)
			}
		}
	}
}

// R5: a code depends on its arguments alone, not on the calls before or on what their arrays held before.
func TestCallsAreIndependent(t *testing.T) {
	key, text := sample(14, 32), sample(15, 100)
	first := mac.Of(key, text)
	for n := range 130 {
		mac.Of(sample(16, n), sample(17, n))
		mac.Equal(sample(16, n), sample(17, n))
		if mac.Of(key, text) != first {
			t.Fatalf("after a key of %d bytes: another result", n)
		}
	}
	clear(key)
	agree(t, key, text)
	clear(text)
	agree(t, key, text)
	equal(t, key, text[:len(key)], true)
}
