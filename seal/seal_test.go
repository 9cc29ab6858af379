package seal_test

import (
	"bytes"
	"crypto/aes"
	"crypto/cipher"
	"crypto/hmac"
	"crypto/sha256"
	"encoding/binary"
	"encoding/hex"
	"math"
	"math/rand"
	"slices"
	"testing"

	"garderobe/api"
	"garderobe/seal"
)

// Where the iv, the encrypted bytes and, counted from the end, the tag begin.
const (
	ivAt      = 24
	contentAt = 40
	tagSize   = 32
)

// numbers are IDs and generations of all kinds, extreme ones among them.
var numbers = []int{
	0, 1, -1, 2, -2, 127, 128, 255, 256, -256, 65535, 65536, api.MaxEpoch,
	math.MaxInt32, math.MinInt32, math.MaxUint32, math.MaxUint32 + 1, math.MaxInt, math.MaxInt - 1, math.MinInt, math.MinInt + 1,
	0x0102030405060708, -0x0102030405060708,
}

// sample returns n bytes that are the same in every run.
func sample(seed int64, n int) []byte {
	b := make([]byte, n)
	rand.New(rand.NewSource(seed)).Read(b)
	return b
}

func decoded(t *testing.T, text string) []byte {
	t.Helper()
	b, err := hex.DecodeString(text)
	if err != nil {
		t.Fatal(err)
	}
	return b
}

func keysOf(seed int64) api.Keys {
	b := sample(seed, 64)
	return api.Keys{Enc: [32]byte(b[:32]), Mac: [32]byte(b[32:])}
}

func ivOf(seed int64) [16]byte {
	return [16]byte(sample(seed, 16))
}

// padded returns b with its padding.
func padded(b []byte) []byte {
	n := 16 - len(b)%16
	return append(bytes.Clone(b), bytes.Repeat([]byte{byte(n)}, n)...)
}

// chained returns the library's chain of a text of whole blocks, whatever it ends with.
func chained(t *testing.T, key [32]byte, iv [16]byte, text []byte) []byte {
	t.Helper()
	c, err := aes.NewCipher(key[:])
	if err != nil {
		t.Fatal(err)
	}
	out := make([]byte, len(text))
	cipher.NewCBCEncrypter(c, iv[:]).CryptBlocks(out, text)
	return out
}

// tagged returns b followed by the library's code of it.
func tagged(key [32]byte, b []byte) []byte {
	h := hmac.New(sha256.New, key[:])
	h.Write(b)
	return h.Sum(bytes.Clone(b))
}

// signed returns bytes with a right tag, whether the numbers and the content before it are right or not.
func signed(k api.Keys, iv [16]byte, id, gen, length int, content []byte) []byte {
	var b []byte
	for _, n := range []int{id, gen, length} {
		b = binary.BigEndian.AppendUint64(b, uint64(n))
	}
	return tagged(k.Mac, slices.Concat(b, iv[:], content))
}

// agree checks that b is sealed as the library's parts do it, and opened again. It returns the sealed bytes.
func agree(t *testing.T, k api.Keys, iv [16]byte, id, gen int, b []byte) []byte {
	t.Helper()
	content := chained(t, k.Enc, iv, padded(b))
	want := signed(k, iv, id, gen, len(content), content)
	s, e := seal.Seal(k, iv, id, gen, b)
	if e != api.OK || !bytes.Equal(s, want) {
		t.Fatalf("id %d, gen %d: Seal of %d bytes is %.60x (%d bytes), %d, want %.60x", id, gen, len(b), s, len(s), e, want)
	}
	if n := seal.Size(len(b)); n != len(s) {
		t.Fatalf("Size(%d) is %d, and Seal makes %d bytes", len(b), n, len(s))
	}
	opened(t, k, id, gen, s, b)
	return s
}

// opened checks that s is opened to want, and that its tag is the right one.
func opened(t *testing.T, k api.Keys, id, gen int, s, want []byte) {
	t.Helper()
	if b, e := seal.Open(k, id, gen, s); e != api.OK || !bytes.Equal(b, want) {
		t.Fatalf("id %d, gen %d: Open of %d bytes is %.40x (%d bytes), %d, want %.40x", id, gen, len(s), b, len(b), e, want)
	}
	if tag, ok := seal.Tag(k, s); !ok || !bytes.Equal(tag[:], s[len(s)-tagSize:]) {
		t.Fatalf("id %d, gen %d: Tag is %x, %v, and %d bytes end with another", id, gen, tag, ok, len(s))
	}
}

// corrupt checks that s is not opened, and that nothing of it is told.
func corrupt(t *testing.T, k api.Keys, id, gen int, s []byte) {
	t.Helper()
	if b, e := seal.Open(k, id, gen, s); e != api.ErrCorrupt || len(b) != 0 {
		t.Fatalf("id %d, gen %d: Open of %d bytes %.40x is %d bytes, %d", id, gen, len(s), s, len(b), e)
	}
}

// P10.1, P10.2: sealed bytes that were computed by another program.
func TestKnown(t *testing.T) {
	var k api.Keys
	var iv [16]byte
	for i := range 32 {
		k.Enc[i], k.Mac[i] = byte(i), byte(32+i)
	}
	for i := range iv {
		iv[i] = byte(64 + i)
	}
	cases := []struct {
		id, gen     int
		plain, want string
	}{
		{
			0, 0, "",
			"000000000000000000000000000000000000000000000010" + "404142434445464748494a4b4c4d4e4f" +
				"974b412738e50f45c7f9db25413f274b" +
				"028b3d4c1da5dcdced52ab645bd5d8ee069ab6c62ebf9ff4ad4f002aa725583d",
		},
		{
			1, 2, "6761726465726f6265",
			"000000000000000100000000000000020000000000000010" + "404142434445464748494a4b4c4d4e4f" +
				"c9adc62fd0a2b7fc73c07958c91d9c3f" +
				"9e939ff485dea600854d99243e022aea5cc5693dc681067f2bc13aee23076867",
		},
		{
			2, 1, "000102030405060708090a0b0c0d0e0f",
			"000000000000000200000000000000010000000000000020" + "404142434445464748494a4b4c4d4e4f" +
				"91ccf78209417c3eea9e9b5181e3debf0d60084fd0c761e5cabebdc0acbd3fc2" +
				"f2b357e3a9e1b8ea31f63fcdb491b0dbdf30c0d4107f1d6058050974cd503c19",
		},
		{
			-1, -2, "6465666768696a6b6c6d6e6f707172737475767778797a7b7c7d7e7f808182",
			"fffffffffffffffffffffffffffffffe0000000000000020" + "404142434445464748494a4b4c4d4e4f" +
				"5d52ca0661d6f9be446483ab9c3655cf6ce6055da567c5a60a2412e9f1947de8" +
				"caf360db872f9d8b3a64a1f15f93196d84a2aeac1f4f251c06b54e95ad2b681c",
		},
		{
			math.MaxInt, math.MinInt, "000000000000000000000000000000000000000000000000000000000000000000",
			"7fffffffffffffff80000000000000000000000000000030" + "404142434445464748494a4b4c4d4e4f" +
				"a37edf3f975abaef937b62c78d5bb157338afc5ba0687a8d9f59d3a264a28f878ec70ff1396b32267e0bb0ccaf0ab4e4" +
				"82fa87d84394b8fac66706640c876c339ae0d49ad457ebf0dc1bec461f9691ad",
		},
	}
	for _, c := range cases {
		plain, want := decoded(t, c.plain), decoded(t, c.want)
		if s, e := seal.Seal(k, iv, c.id, c.gen, plain); e != api.OK || !bytes.Equal(s, want) {
			t.Errorf("Seal(%d, %d, %s) = %x, %d, want %s", c.id, c.gen, c.plain, s, e, c.want)
		}
		opened(t, k, c.id, c.gen, want, plain)
	}
}

// P10.1: each size there is, and the ones beside.
func TestSizes(t *testing.T) {
	if n := seal.Size(0); n != 88 {
		t.Errorf("Size(0) is %d", n)
	}
	want := 88
	for n := range 1<<20 + 1 {
		if n > 0 && n%16 == 0 {
			want += 16
		}
		if got := seal.Size(n); got != want {
			t.Fatalf("Size(%d) is %d, want %d", n, got, want)
		}
	}
	for _, n := range []int{
		-1, -2, -15, -16, -17, -72, -88, -1 << 20, math.MinInt32, math.MinInt, math.MinInt + 1,
		1<<20 + 1, 1<<20 + 15, 1<<20 + 16, 1 << 21, math.MaxInt32, math.MaxUint32 + 1, math.MaxInt, math.MaxInt - 15, math.MaxInt - 72,
	} {
		if got := seal.Size(n); got != 0 {
			t.Errorf("Size(%d) is %d", n, got)
		}
	}
}

// P10.1, P10.2, R1: each number of blocks, whole and not; none among them.
func TestLengths(t *testing.T) {
	k, iv := keysOf(1), ivOf(2)
	agree(t, k, iv, 1, 2, nil)
	for n := range 600 {
		agree(t, k, iv, 1, 2, sample(int64(n), n))
		agree(t, k, iv, 1, 2, make([]byte, n))
	}
	for _, n := range []int{1023, 1024, 1025, 65535, 65536, 1<<18 - 1, 1 << 18} {
		agree(t, k, iv, 1, 2, sample(int64(n), n))
	}
}

// P10.1, P10.2, R3: the most bytes there may be, and more.
func TestMost(t *testing.T) {
	k, iv, b := keysOf(3), ivOf(4), sample(5, 1<<20+32)
	for _, n := range []int{1<<20 - 1, 1 << 20} {
		agree(t, k, iv, 3, 4, b[:n])
	}
	for _, n := range []int{1<<20 + 1, 1<<20 + 15, 1<<20 + 16, 1<<20 + 32} {
		if s, e := seal.Seal(k, iv, 3, 4, b[:n]); e != api.ErrOver || len(s) != 0 {
			t.Errorf("Seal of %d bytes is %d bytes, %d", n, len(s), e)
		}
	}
}

// P10.2: bytes that would be sealed bytes, had Seal not to refuse so many plain bytes.
func TestTooLongToOpen(t *testing.T) {
	k, iv, b := keysOf(6), ivOf(7), sample(8, 1<<20+32)
	for _, n := range []int{1<<20 + 1, 1<<20 + 15, 1<<20 + 16, 1<<20 + 32} {
		content := chained(t, k.Enc, iv, padded(b[:n]))
		corrupt(t, k, 3, 4, signed(k, iv, 3, 4, len(content), content))
	}
}

// P10.1, P10.2, R1: numbers of all kinds in both places.
func TestNumbers(t *testing.T) {
	k, iv, b := keysOf(9), ivOf(10), sample(11, 20)
	for _, id := range numbers {
		for _, gen := range numbers {
			s := agree(t, k, iv, id, gen, b)
			if id != gen {
				corrupt(t, k, gen, id, s)
			}
		}
	}
}

// P10.2: under each other id and gen, sealed bytes are not opened.
func TestOtherNumbers(t *testing.T) {
	k := keysOf(12)
	for _, n := range numbers {
		s := agree(t, k, ivOf(13), n, 9, sample(14, 20))
		r := agree(t, k, ivOf(13), 9, n, sample(14, 20))
		for _, other := range numbers {
			if other != n {
				corrupt(t, k, other, 9, s)
				corrupt(t, k, 9, other, r)
			}
		}
		for bit := range 64 {
			corrupt(t, k, n^1<<bit, 9, s)
			corrupt(t, k, n, 9^1<<bit, s)
			corrupt(t, k, 9^1<<bit, n, r)
			corrupt(t, k, 9, n^1<<bit, r)
		}
	}
}

// P10.2: with each bit changed, sealed bytes are not opened.
func TestBits(t *testing.T) {
	k := keysOf(15)
	for _, n := range []int{0, 1, 15, 16, 17, 40} {
		s := agree(t, k, ivOf(16), 5, 6, sample(17, n))
		for bit := range 8 * len(s) {
			other := bytes.Clone(s)
			other[bit/8] ^= 1 << (bit % 8)
			corrupt(t, k, 5, 6, other)
		}
	}
}

// P10.2: with a bit of a key changed; that of Mac is noticed by the tag, that of Enc at least by other bytes.
func TestOtherKeys(t *testing.T) {
	k, b := keysOf(18), sample(19, 20)
	s := agree(t, k, ivOf(20), 5, 6, b)
	for bit := range 256 {
		other := k
		other.Mac[bit/8] ^= 1 << (bit % 8)
		corrupt(t, other, 5, 6, s)
		other = k
		other.Enc[bit/8] ^= 1 << (bit % 8)
		if got, e := seal.Open(other, 5, 6, s); e == api.OK && bytes.Equal(got, b) || e != api.OK && e != api.ErrCorrupt {
			t.Fatalf("bit %d of Enc: Open is %x, %d", bit, got, e)
		}
	}
	corrupt(t, api.Keys{Enc: k.Mac, Mac: k.Enc}, 5, 6, s)
	corrupt(t, api.Keys{Enc: k.Enc, Mac: k.Enc}, 5, 6, s)
	corrupt(t, api.Keys{}, 5, 6, s)
}

// P10.2: cut at either end, or longer.
func TestCuts(t *testing.T) {
	k := keysOf(21)
	for _, n := range []int{0, 15, 16, 33} {
		s := agree(t, k, ivOf(22), 5, 6, sample(23, n))
		for cut := range s {
			corrupt(t, k, 5, 6, s[:cut])
			corrupt(t, k, 5, 6, s[:cut:cut])
			if cut > 0 {
				corrupt(t, k, 5, 6, s[cut:])
			}
		}
		for more := 1; more < 100; more++ {
			corrupt(t, k, 5, 6, append(bytes.Clone(s), make([]byte, more)...))
			corrupt(t, k, 5, 6, append(bytes.Clone(s), sample(24, more)...))
			corrupt(t, k, 5, 6, append(sample(25, more), s...))
		}
	}
	corrupt(t, k, 5, 6, nil)
	corrupt(t, k, 5, 6, []byte{})
}

// P10.2: bytes of any length with a right tag, too few for sealed bytes or not whole blocks.
func TestTaggedBytes(t *testing.T) {
	k := keysOf(26)
	for n := range 300 {
		for _, b := range [][]byte{make([]byte, n), sample(int64(n), n)} {
			corrupt(t, k, 0, 0, tagged(k.Mac, b))
			corrupt(t, k, 5, 6, tagged(k.Mac, b))
		}
	}
	whole := agree(t, k, ivOf(27), 5, 6, sample(28, 50))
	for n := range len(whole) - tagSize {
		corrupt(t, k, 5, 6, tagged(k.Mac, whole[:n]))
	}
	corrupt(t, k, 5, 6, tagged(k.Mac, whole))
}

// P10.2: contents that are not whole blocks are not opened, also if their length is said rightly.
func TestTaggedLengths(t *testing.T) {
	k, iv := keysOf(29), ivOf(30)
	content := chained(t, k.Enc, iv, padded(sample(31, 140)))
	for n := range len(content) {
		corrupt(t, k, 5, 6, signed(k, iv, 5, 6, n, content[:n]))
	}
	opened(t, k, 5, 6, signed(k, iv, 5, 6, len(content), content), sample(31, 140))
}

// P10.2: with a right tag, a length that is not that of the encrypted bytes.
func TestHeaderLength(t *testing.T) {
	k, iv := keysOf(32), ivOf(33)
	for _, n := range []int{0, 20, 40} {
		content := chained(t, k.Enc, iv, padded(sample(34, n)))
		opened(t, k, 5, 6, signed(k, iv, 5, 6, len(content), content), sample(34, n))
		for length := -300; length < 300; length++ {
			if length != len(content) {
				corrupt(t, k, 5, 6, signed(k, iv, 5, 6, length, content))
			}
		}
		for bit := range 64 {
			corrupt(t, k, 5, 6, signed(k, iv, 5, 6, len(content)^1<<bit, content))
		}
		for _, length := range numbers {
			corrupt(t, k, 5, 6, signed(k, iv, 5, 6, length, content))
		}
		corrupt(t, k, 5, 6, signed(k, iv, 5, 6, len(content)+72, content))
	}
}

// P10.2: with a right tag, numbers that are others than those asked for, or stand in another order.
func TestHeaderNumbers(t *testing.T) {
	k, iv := keysOf(35), ivOf(36)
	content := chained(t, k.Enc, iv, padded(sample(37, 20)))
	for _, n := range [][3]int{
		{6, 5, 32}, {5, 32, 6}, {6, 32, 5}, {32, 5, 6}, {32, 6, 5}, {0, 6, 32}, {5, 0, 32}, {5, 6, 0}, {0, 0, 0}, {0, 0, 32},
		{-5, 6, 32}, {5, -6, 32}, {5, 6, -32}, {5 << 8, 6 << 8, 32 << 8}, {5 << 56, 6 << 56, 32 << 56},
	} {
		corrupt(t, k, 5, 6, signed(k, iv, n[0], n[1], n[2], content))
	}
	opened(t, k, 5, 6, signed(k, iv, 5, 6, 32, content), sample(37, 20))
}

// P10.2: with a right tag and header, what was not padded as it should be.
func TestPadding(t *testing.T) {
	k, iv := keysOf(38), ivOf(39)
	for _, n := range []int{16, 32, 48} {
		for last := range 256 {
			text := bytes.Repeat([]byte{byte(last)}, n)
			content := chained(t, k.Enc, iv, text)
			s := signed(k, iv, 5, 6, n, content)
			if last >= 1 && last <= 16 {
				opened(t, k, 5, 6, s, text[:n-last])
			} else {
				corrupt(t, k, 5, 6, s)
			}
		}
		for last := 2; last <= 16; last++ {
			text := padded(sample(40, n-last))
			text[n-last] ^= 1
			corrupt(t, k, 5, 6, signed(k, iv, 5, 6, n, chained(t, k.Enc, iv, text)))
		}
	}
}

// P10.2: blocks of any bytes, and any iv, with a right tag: they are opened if and only if Seal makes them.
func TestAnyBlocks(t *testing.T) {
	r := rand.New(rand.NewSource(41))
	rights := 0
	for i := range 2000 {
		k := keysOf(int64(i))
		content := sample(r.Int63(), 16*(1+r.Intn(3)))
		s := signed(k, ivOf(r.Int63()), 5, 6, len(content), content)
		b, e := seal.Open(k, 5, 6, s)
		if e != api.OK {
			corrupt(t, k, 5, 6, s)
			continue
		}
		rights++
		if again := agree(t, k, [16]byte(s[ivAt:]), 5, 6, b); !bytes.Equal(again, s) {
			t.Fatalf("%x is opened to %x, which is sealed as %x", s, b, again)
		}
	}
	if rights == 0 {
		t.Error("no blocks were opened: the other side of the test is empty")
	}
}

// P10.2: bytes that nobody signed.
func TestAnyBytes(t *testing.T) {
	k := keysOf(42)
	for n := range 400 {
		corrupt(t, k, 0, 0, make([]byte, n))
		corrupt(t, k, 0, 0, sample(int64(n), n))
		corrupt(t, k, -1, -1, bytes.Repeat([]byte{0xff}, n))
	}
}

// P10.2: any content signed for one id, gen or block is not opened in the place of another.
func TestPartsOfOthers(t *testing.T) {
	k := keysOf(43)
	a := agree(t, k, ivOf(44), 5, 6, sample(45, 40))
	for _, b := range [][]byte{
		agree(t, k, ivOf(46), 5, 6, sample(45, 40)),
		agree(t, k, ivOf(44), 5, 7, sample(45, 40)),
		agree(t, k, ivOf(44), 7, 6, sample(45, 40)),
		agree(t, k, ivOf(44), 5, 6, sample(47, 40)),
	} {
		for _, at := range []int{8, 16, ivAt, contentAt, len(a) - tagSize} {
			for _, mixed := range [][]byte{slices.Concat(a[:at], b[at:]), slices.Concat(b[:at], a[at:])} {
				if !bytes.Equal(mixed, a) && !bytes.Equal(mixed, b) {
					corrupt(t, k, 5, 6, mixed)
				}
			}
		}
	}
}

// P10.2, R3: the tag of bytes of any length, whatever their last 32 are.
func TestTag(t *testing.T) {
	for i := range 100 {
		k := keysOf(int64(i))
		for n := range 200 {
			s := sample(int64(n), n)
			tag, ok := seal.Tag(k, s)
			if n < tagSize {
				if ok || tag != ([32]byte{}) {
					t.Fatalf("Tag of %d bytes is %x, %v", n, tag, ok)
				}
				continue
			}
			want := tagged(k.Mac, s[:n-tagSize])[n-tagSize:]
			if !ok || !bytes.Equal(tag[:], want) {
				t.Fatalf("Tag of %d bytes is %x, %v, want %x", n, tag, ok, want)
			}
			clear(s[n-tagSize:])
			if again, ok := seal.Tag(k, s); !ok || again != tag {
				t.Fatalf("Tag of %d bytes depends on their last", n)
			}
		}
	}
	if tag, ok := seal.Tag(keysOf(48), nil); ok || tag != ([32]byte{}) {
		t.Errorf("Tag of nil is %x, %v", tag, ok)
	}
	if tag, ok := seal.Tag(keysOf(48), make([]byte, 31, 64)); ok || tag != ([32]byte{}) {
		t.Errorf("Tag of 31 bytes with spare capacity is %x, %v", tag, ok)
	}
}

// P10.2: the tag depends on Mac alone, of both keys.
func TestKeyOfTag(t *testing.T) {
	k, s := keysOf(49), sample(50, 100)
	tag, _ := seal.Tag(k, s)
	for bit := range 256 {
		other := k
		other.Enc[bit/8] ^= 1 << (bit % 8)
		if x, ok := seal.Tag(other, s); !ok || x != tag {
			t.Fatalf("bit %d of Enc makes a difference", bit)
		}
		other = k
		other.Mac[bit/8] ^= 1 << (bit % 8)
		if x, ok := seal.Tag(other, s); !ok || x == tag {
			t.Fatalf("bit %d of Mac makes no difference", bit)
		}
	}
}

// P10.2: what was changed and then tagged again is a block of its own.
func TestTaggedAgain(t *testing.T) {
	k, b := keysOf(51), sample(52, 40)
	s := agree(t, k, ivOf(53), 5, 6, b)
	s[7], s[15] = 50, 60
	corrupt(t, k, 5, 6, s)
	corrupt(t, k, 50, 60, s)
	tag, _ := seal.Tag(k, s)
	copy(s[len(s)-tagSize:], tag[:])
	corrupt(t, k, 5, 6, s)
	opened(t, k, 50, 60, s, b)
}

// P10.1, P10.2: keys, ivs, numbers and bytes of all kinds.
func TestRandom(t *testing.T) {
	r := rand.New(rand.NewSource(54))
	for range 1000 {
		k, iv := keysOf(r.Int63()), ivOf(r.Int63())
		agree(t, k, iv, int(r.Uint64()), int(r.Uint64()), sample(r.Int63(), r.Intn(300)))
	}
	agree(t, api.Keys{}, [16]byte{}, 0, 0, nil)
}

// R4: the arguments stay as they are, and so does what lies behind them.
func TestArgumentsStay(t *testing.T) {
	k, iv := keysOf(55), ivOf(56)
	for n := range 130 {
		memory := sample(int64(n), n+200)
		s := agree(t, k, iv, 5, 6, memory[:n])
		seal.Open(k, 5, 6, memory[:n])
		seal.Tag(k, memory[:n])
		if !bytes.Equal(memory, sample(int64(n), n+200)) {
			t.Fatalf("%d bytes: the argument was changed", n)
		}
		behind := append(bytes.Clone(s), "behind this"...)
		opened(t, k, 5, 6, behind[:len(s)], memory[:n])
		corrupt(t, k, 6, 6, behind[:len(s)])
		if !bytes.Equal(behind, append(bytes.Clone(s), "behind this"...)) {
			t.Fatalf("%d bytes: Open or Tag changed the sealed bytes", n)
		}
	}
}

// fill writes into all the memory of b, its spare capacity too.
func fill(b []byte) {
	b = b[:cap(b)]
	for i := range b {
		b[i] = 0xee
	}
}

// R4: results have memory of their own, spare capacity included.
func TestResultsAreNew(t *testing.T) {
	k, iv := keysOf(57), ivOf(58)
	for n := range 130 {
		plain := sample(int64(n), n)
		s := agree(t, k, iv, 5, 6, plain)
		kept := bytes.Clone(s)
		first, _ := seal.Open(k, 5, 6, s)
		second, _ := seal.Open(k, 5, 6, s)
		fill(first)
		if !bytes.Equal(second, plain) || !bytes.Equal(s, kept) {
			t.Fatalf("%d bytes: a result of Open shares its memory", n)
		}
		other, _ := seal.Seal(k, iv, 5, 6, plain)
		fill(other)
		if !bytes.Equal(plain, sample(int64(n), n)) || !bytes.Equal(s, kept) {
			t.Fatalf("%d bytes: a result of Seal shares its memory", n)
		}
	}
}

// R5: a result depends on its arguments alone, not on the calls before or on what their arrays held before.
func TestCallsAreIndependent(t *testing.T) {
	k, iv, plain := keysOf(59), ivOf(60), sample(61, 50)
	s := agree(t, k, iv, 5, 6, plain)
	for n := range 130 {
		other := keysOf(int64(n))
		seal.Size(n)
		seal.Seal(other, ivOf(int64(n)), n, -n, sample(62, n))
		seal.Open(other, 5, 6, s)
		seal.Open(k, 5, 6, sample(62, n))
		seal.Tag(other, sample(62, n))
		if !bytes.Equal(agree(t, k, iv, 5, 6, plain), s) {
			t.Fatalf("after calls with %d bytes: another result", n)
		}
	}
	clear(plain)
	agree(t, k, iv, 5, 6, plain)
	clear(s)
	corrupt(t, k, 5, 6, s)
}
