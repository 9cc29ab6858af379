package sha_test

import (
	"bytes"
	"crypto/sha256"
	"encoding/hex"
	"math/rand"
	"slices"
	"strings"
	"testing"

	"garderobe/sha"
)

// sample returns n bytes that are the same in every run.
func sample(seed int64, n int) []byte {
	b := make([]byte, n)
	rand.New(rand.NewSource(seed)).Read(b)
	return b
}

// agree checks the digest of parts against the library's of their concatenation.
func agree(t *testing.T, parts ...[]byte) {
	t.Helper()
	text := slices.Concat(parts...)
	if got, want := sha.Of(parts...), sha256.Sum256(text); got != want {
		t.Fatalf("%d bytes in %d parts: %x, want %x", len(text), len(parts), got, want)
	}
}

// P5.1: known digests, those of the document and of FIPS 180-4 among them.
func TestOfKnown(t *testing.T) {
	cases := []struct{ text, want string }{
		{"", "e3b0c44298fc1c149afbf4c8996fb92427ae41e4649b934ca495991b7852b855"},
		{"abc", "ba7816bf8f01cfea414140de5dae2223b00361a396177a9cb410ff61f20015ad"},
		{"a", "ca978112ca1bbdcafac231b39a23dc4da786eff8147c4e72b9807785afee48bb"},
		{"\x00", "6e340b9cffb37a989ca544e6bb780a2c78901d3fb33738768511a30617afa01d"},
		{"\xbd", "68325720aabd7c82f30f554b313d0570c95accbb7dc4b5aae11204c08ffe732b"},
		{
			"abcdbcdecdefdefgefghfghighijhijkijkljklmklmnlmnomnopnopq",
			"248d6a61d20638b8e5c026930c3e6039a33ce45964ff2167f6ecedd419db06c1",
		},
		{
			"abcdefghbcdefghicdefghijdefghijkefghijklfghijklmghijklmnhijklmnoijklmnopjklmnopqklmnopqrlmnopqrsmnopqrstnopqrstu",
			"cf5b16a778af8380036ce59e7b0492370b249b11e8f07a51afac45037afee9d1",
		},
		{
			"The quick brown fox jumps over the lazy dog",
			"d7a8fbb307d7809469ca9abcb0082e4f8d5651e46d3cdb762d02d0bf37c9e592",
		},
		{strings.Repeat("a", 1000000), "cdc76e5c9914fb9281a1c7e284d73e67f1809a48a497200e046d39ccc7112cd0"},
	}
	for _, c := range cases {
		got := sha.Of([]byte(c.text))
		if hex.EncodeToString(got[:]) != c.want {
			t.Errorf("Of(%.20q, %d bytes) = %x, want %s", c.text, len(c.text), got, c.want)
		}
	}
}

// P5.1: every length around the ends of the first blocks, where the zero bytes and the number of bits
// fill the last block, just fit into it or need one more; and longer texts.
func TestLengths(t *testing.T) {
	for n := range 5*64 + 2 {
		agree(t, sample(int64(n), n))
		agree(t, make([]byte, n))
		agree(t, bytes.Repeat([]byte{0xff}, n))
		agree(t, bytes.Repeat([]byte{0x80}, n))
	}
	for _, n := range []int{1023, 1024, 4095, 8191, 8192, 65535, 65536, 2097151, 2097152, 2097153} {
		agree(t, sample(int64(n), n))
	}
}

// P5.1: each bit of a text counts, in its first block and in later ones.
func TestEveryBit(t *testing.T) {
	for _, n := range []int{1, 55, 56, 64, 150} {
		whole := sha.Of(make([]byte, n))
		for bit := range 8 * n {
			b := make([]byte, n)
			b[bit/8] = 1 << (bit % 8)
			agree(t, b)
			if sha.Of(b) == whole {
				t.Fatalf("%d bytes: bit %d makes no difference", n, bit)
			}
		}
	}
}

// P5.1: the padding belongs to the message: a text that ends like it is another text.
func TestPaddingIsNoText(t *testing.T) {
	for n := range 130 {
		text := sample(7, n)
		agree(t, text, []byte{128})
		agree(t, text, []byte{128, 0})
		agree(t, text, []byte{0})
		plain := sha.Of(text)
		for _, more := range [][]byte{{128}, {128, 0}, {0}} {
			if sha.Of(text, more) == plain {
				t.Fatalf("%d bytes: %v behind them makes no difference", n, more)
			}
		}
	}
}

// P5.1: the number of bits takes more than four bytes from 2^29 bytes on.
func TestManyBits(t *testing.T) {
	if testing.Short() {
		t.Skip("half a gigabyte")
	}
	const size = 1 << 20
	part := sample(8, size)
	parts := slices.Repeat([][]byte{part}, 1<<29/size)
	parts = append(parts, []byte("end"))
	oracle := sha256.New()
	for _, p := range parts {
		oracle.Write(p)
	}
	if got, want := sha.Of(parts...), [32]byte(oracle.Sum(nil)); got != want {
		t.Errorf("%x, want %x", got, want)
	}
}

// P5.1, R1: any number of parts, empty and nil ones among them.
func TestFewParts(t *testing.T) {
	none := sha256.Sum256(nil)
	lists := [][][]byte{nil, {}, {nil}, {{}}, {nil, {}, nil}, make([][]byte, 1000)}
	for _, parts := range lists {
		if got := sha.Of(parts...); got != none {
			t.Errorf("Of %d empty parts = %x, want %x", len(parts), got, none)
		}
	}
	if got := sha.Of(); got != none {
		t.Errorf("Of() = %x, want %x", got, none)
	}
	agree(t, nil, []byte("a"), []byte{}, []byte("bc"), nil)
	agree(t, []byte("abc"), nil)
	agree(t, nil, []byte("abc"))
}

// P5.1: where parts are cut makes no difference.
func TestCuts(t *testing.T) {
	text := sample(9, 200)
	for first := range len(text) + 1 {
		agree(t, text[:first], text[first:])
		for _, size := range []int{0, 1, 55, 56, 63, 64, 65} {
			second := min(first+size, len(text))
			agree(t, text[:first], text[first:second], text[second:])
		}
	}
	for size := 1; size <= 130; size++ {
		agree(t, slices.Collect(slices.Chunk(text, size))...)
	}
}

// P5.1: the parts are taken in their order, and each as often as it is given.
func TestOrder(t *testing.T) {
	one, other := sample(10, 70), sample(11, 41)
	agree(t, one, other)
	agree(t, other, one)
	agree(t, one, one, other, one)
	if sha.Of(one, other) == sha.Of(other, one) {
		t.Error("the order of the parts makes no difference")
	}
	if sha.Of(one) == sha.Of(one, one) {
		t.Error("a second time makes no difference")
	}
}

// P5.1: texts and cuts of all kinds.
func TestRandom(t *testing.T) {
	r := rand.New(rand.NewSource(12))
	for range 2000 {
		parts := make([][]byte, r.Intn(8))
		for i := range parts {
			parts[i] = make([]byte, r.Intn(140))
			r.Read(parts[i])
		}
		agree(t, parts...)
	}
}

// R4: neither the parts nor their list are changed, nor what lies behind either of them.
func TestArgumentsStay(t *testing.T) {
	for n := range 200 {
		room := bytes.Repeat([]byte{0xa5}, n+130)
		behind := []byte("behind")
		list := [][]byte{room[:n], nil, room[n : n+9], behind, behind, behind}
		sha.Of(list[:3]...)
		if !bytes.Equal(room, bytes.Repeat([]byte{0xa5}, n+130)) {
			t.Fatalf("%d bytes: the bytes were changed", n)
		}
		if len(list[0]) != n || list[1] != nil || len(list[2]) != 9 {
			t.Fatalf("%d bytes: the list of parts was changed", n)
		}
		for _, part := range list[3:] {
			if string(part) != "behind" {
				t.Fatalf("%d bytes: what lies behind the list was changed to %q", n, part)
			}
		}
	}
}

// R5: a digest depends on its parts alone, not on the calls before or on what their arrays held before.
func TestCallsAreIndependent(t *testing.T) {
	text := sample(13, 100)
	first := sha.Of(text)
	for n := range 130 {
		sha.Of(sample(14, n))
		if sha.Of(text) != first {
			t.Fatalf("after a text of %d bytes: another result", n)
		}
	}
	clear(text)
	agree(t, text)
}
