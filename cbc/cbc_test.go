package cbc_test

import (
	"bytes"
	stdaes "crypto/aes"
	"crypto/cipher"
	"encoding/hex"
	"math/rand"
	"testing"

	"garderobe/api"
	"garderobe/cbc"
)

// sizes are the numbers of bytes that a key may have.
var sizes = []int{16, 24, 32}

// sample returns n bytes that are the same in every run.
func sample(seed int64, n int) []byte {
	b := make([]byte, n)
	rand.New(rand.NewSource(seed)).Read(b)
	return b
}

func decoded(t *testing.T, text string) []byte {
	t.Helper()
	b, err := hex.DecodeString(text)
	if err != nil {
		t.Fatal(err)
	}
	return b
}

// chained returns the library's chain of a text of whole blocks, whatever it ends with.
func chained(t *testing.T, key []byte, iv [16]byte, text []byte) []byte {
	t.Helper()
	c, err := stdaes.NewCipher(key)
	if err != nil {
		t.Fatal(err)
	}
	out := make([]byte, len(text))
	cipher.NewCBCEncrypter(c, iv[:]).CryptBlocks(out, text)
	return out
}

// unchained returns the text whose chain is b.
func unchained(t *testing.T, key []byte, iv [16]byte, b []byte) []byte {
	t.Helper()
	c, err := stdaes.NewCipher(key)
	if err != nil {
		t.Fatal(err)
	}
	out := make([]byte, len(b))
	cipher.NewCBCDecrypter(c, iv[:]).CryptBlocks(out, b)
	return out
}

// padded returns b with its padding.
func padded(b []byte) []byte {
	n := 16 - len(b)%16
	text := bytes.Clone(b)
	for range n {
		text = append(text, byte(n))
	}
	return text
}

// agree checks that b is sealed as the library does it, and opened again. It returns the sealed bytes.
func agree(t *testing.T, key []byte, iv [16]byte, b []byte) []byte {
	t.Helper()
	want := chained(t, key, iv, padded(b))
	sealed, e := cbc.Seal(key, iv, b)
	if e != api.OK || !bytes.Equal(sealed, want) {
		t.Fatalf("key %x, iv %x: Seal of %d bytes is %.40x (%d bytes), %d, want %.40x", key, iv, len(b), sealed, len(sealed), e, want)
	}
	opened(t, key, iv, sealed, b)
	return sealed
}

// opened checks that sealed is opened to want.
func opened(t *testing.T, key []byte, iv [16]byte, sealed, want []byte) {
	t.Helper()
	got, e := cbc.Open(key, iv, sealed)
	if e != api.OK || !bytes.Equal(got, want) {
		t.Fatalf("key %x, iv %x: Open of %d bytes is %.40x (%d bytes), %d, want %.40x", key, iv, len(sealed), got, len(got), e, want)
	}
}

// corrupt checks that b is not opened, and that nothing of it is told.
func corrupt(t *testing.T, key []byte, iv [16]byte, b []byte) {
	t.Helper()
	if got, e := cbc.Open(key, iv, b); e != api.ErrCorrupt || len(got) != 0 {
		t.Fatalf("Open of %d bytes %.40x: %d bytes, %d", len(b), b, len(got), e)
	}
}

// P7.1, P7.2: the chains of NIST SP 800-38A and of RFC 3602, ahead of the padding.
func TestKnown(t *testing.T) {
	const (
		iv    = "000102030405060708090a0b0c0d0e0f"
		plain = "6bc1bee22e409f96e93d7e117393172a" + "ae2d8a571e03ac9c9eb76fac45af8e51" +
			"30c81c46a35ce411e5fbc1191a0a52ef" + "f69f2445df4f9b17ad2b417be66c3710"
	)
	cases := []struct{ key, iv, plain, want string }{
		{
			"2b7e151628aed2a6abf7158809cf4f3c", iv, plain,
			"7649abac8119b246cee98e9b12e9197d" + "5086cb9b507219ee95db113a917678b2" +
				"73bed6b8e3c1743b7116e69e22229516" + "3ff1caa1681fac09120eca307586e1a7",
		},
		{
			"8e73b0f7da0e6452c810f32b809079e562f8ead2522c6b7b", iv, plain,
			"4f021db243bc633d7178183a9fa071e8" + "b4d9ada9ad7dedf4e5e738763f69145a" +
				"571b242012fb7ae07fa9baac3df102e0" + "08b0e27988598881d920a9e64f5615cd",
		},
		{
			"603deb1015ca71be2b73aef0857d77811f352c073b6108d72d9810a30914dff4", iv, plain,
			"f58c4c04d6e5f1ba779eabfb5f7bfbd6" + "9cfc4e967edb808d679f777bc6702c7d" +
				"39f23369a9d9bacfa530e26304231461" + "b2eb05e2c39be9fcda6c19078c6a9d1b",
		},
		{
			"06a9214036b8a15b512e03d534120006", "3dafba429d9eb430b422da802c9fac41",
			hex.EncodeToString([]byte("Single block msg")), "e353779c1079aeb82708942dbe77181a",
		},
	}
	for _, c := range cases {
		key, iv, plain, want := decoded(t, c.key), [16]byte(decoded(t, c.iv)), decoded(t, c.plain), decoded(t, c.want)
		sealed := agree(t, key, iv, plain)
		if len(sealed) != len(want)+16 || !bytes.HasPrefix(sealed, want) {
			t.Errorf("key %x: %x, want %x and a block more", key, sealed, want)
		}
	}
}

// P7.1: no bytes are sealed as a block of padding.
func TestNothing(t *testing.T) {
	for _, size := range sizes {
		key, iv := sample(1, size), [16]byte(sample(2, 16))
		for _, b := range [][]byte{nil, {}} {
			if sealed := agree(t, key, iv, b); len(sealed) != 16 {
				t.Errorf("no bytes are sealed as %d", len(sealed))
			}
		}
	}
}

// P7.1, P7.2: every length around the ends of the first blocks, of texts of every kind; some look like padding.
func TestLengths(t *testing.T) {
	for _, size := range sizes {
		key, iv := sample(int64(size), size), [16]byte(sample(3, 16))
		for n := range 5*16 + 2 {
			sealed := agree(t, key, iv, sample(int64(n), n))
			if len(sealed) != n/16*16+16 {
				t.Fatalf("%d bytes are sealed as %d", n, len(sealed))
			}
			for fill := range 18 {
				agree(t, key, iv, bytes.Repeat([]byte{byte(fill)}, n))
			}
			agree(t, key, iv, bytes.Repeat([]byte{0xff}, n))
			agree(t, key, iv, padded(sample(int64(n), n)))
		}
	}
}

// P7.1, P7.2: up to 2^20 bytes are sealed and opened, and no more are sealed.
func TestMost(t *testing.T) {
	key, iv := sample(4, 32), [16]byte(sample(5, 16))
	memory := sample(6, api.MaxBytes+17)
	for _, n := range []int{65535, 65536, api.MaxBytes - 17, api.MaxBytes - 16, api.MaxBytes - 15, api.MaxBytes - 1, api.MaxBytes} {
		agree(t, key, iv, memory[:n])
	}
	for _, n := range []int{api.MaxBytes + 1, api.MaxBytes + 15, api.MaxBytes + 16, api.MaxBytes + 17} {
		for _, size := range sizes {
			if sealed, e := cbc.Seal(key[:size], iv, memory[:n]); e != api.ErrOver || len(sealed) != 0 {
				t.Errorf("Seal of %d bytes: %d bytes, %d", n, len(sealed), e)
			}
		}
	}
}

// P7.2: what is too long for Seal is no result of it, however right its padding is.
func TestTooLongToOpen(t *testing.T) {
	key, iv := sample(7, 16), [16]byte(sample(8, 16))
	memory := sample(9, 2*api.MaxBytes)
	for n := api.MaxBytes + 1; n <= api.MaxBytes+17; n++ {
		corrupt(t, key, iv, chained(t, key, iv, padded(memory[:n])))
	}
	corrupt(t, key, iv, chained(t, key, iv, padded(memory)))
	full := memory[:api.MaxBytes]
	opened(t, key, iv, chained(t, key, iv, padded(full)), full)
}

// P7.1, P7.2: keys that are not valid, ahead of all that can be wrong with the bytes.
func TestKeys(t *testing.T) {
	iv := [16]byte(sample(10, 16))
	good, e := cbc.Seal(sample(11, 16), iv, []byte("text"))
	if e != api.OK {
		t.Fatal(e)
	}
	keys := [][]byte{nil, make([]byte, 0, 16), sample(12, 64), sample(12, 128), sample(12, 256), sample(12, 1<<16)}
	for n := range 50 {
		if n != 16 && n != 24 && n != 32 {
			keys = append(keys, sample(11, n))
		}
	}
	long := make([]byte, api.MaxBytes+1)
	for _, key := range keys {
		for _, b := range [][]byte{nil, {}, []byte("text"), good, good[:15], long} {
			if sealed, e := cbc.Seal(key, iv, b); e != api.ErrArg || len(sealed) != 0 {
				t.Errorf("key of %d bytes: Seal of %d bytes: %d bytes, %d", len(key), len(b), len(sealed), e)
			}
			if plain, e := cbc.Open(key, iv, b); e != api.ErrArg || len(plain) != 0 {
				t.Errorf("key of %d bytes: Open of %d bytes: %d bytes, %d", len(key), len(b), len(plain), e)
			}
		}
	}
}

// P7.2: a length that is no multiple of 16, or none, is never right, even if whole blocks of it would be.
func TestLengthsToOpen(t *testing.T) {
	for _, size := range sizes {
		key, iv := sample(int64(size), size), [16]byte(sample(13, 16))
		corrupt(t, key, iv, nil)
		corrupt(t, key, iv, []byte{})
		for n := range 4 * 16 {
			sealed := agree(t, key, iv, sample(int64(n), n))
			for more := 1; more < 16; more++ {
				corrupt(t, key, iv, append(bytes.Clone(sealed), make([]byte, more)...))
				corrupt(t, key, iv, append(bytes.Clone(sealed), sealed[:more]...))
				corrupt(t, key, iv, sealed[:len(sealed)-more])
				corrupt(t, key, iv, sealed[more:])
			}
		}
	}
}

// P7.2: the last byte must be from 1 to 16.
func TestLastByte(t *testing.T) {
	for _, size := range sizes {
		key, iv := sample(int64(size), size), [16]byte(sample(14, 16))
		for _, n := range []int{16, 32, 48, 256, 272} {
			for last := range 256 {
				text := bytes.Repeat([]byte{byte(last)}, n)
				sealed := chained(t, key, iv, text)
				if last >= 1 && last <= 16 {
					opened(t, key, iv, sealed, text[:n-last])
				} else {
					corrupt(t, key, iv, sealed)
				}
			}
		}
	}
}

// P7.2: each byte of the padding must be its number; the bytes ahead of it may be anything.
func TestPadding(t *testing.T) {
	key, iv := sample(15, 24), [16]byte(sample(16, 16))
	for _, n := range []int{16, 32, 48} {
		for count := 1; count <= 16; count++ {
			text := append(sample(int64(count), n-count), bytes.Repeat([]byte{byte(count)}, count)...)
			opened(t, key, iv, chained(t, key, iv, text), text[:n-count])
			for i := range n - 1 {
				for _, other := range []byte{0, 1, byte(count - 1), byte(count), byte(count + 1), byte(count) ^ 0x80, 0xff} {
					changed := bytes.Clone(text)
					changed[i] = other
					sealed := chained(t, key, iv, changed)
					if i < n-count || other == byte(count) {
						opened(t, key, iv, sealed, changed[:n-count])
					} else {
						corrupt(t, key, iv, sealed)
					}
				}
			}
		}
	}
}

// right tells whether a text of whole blocks ends with padding, and how much.
func right(text []byte) (int, bool) {
	if len(text) == 0 {
		return 0, false
	}
	n := int(text[len(text)-1])
	if n == 0 || n > 16 {
		return 0, false
	}
	for _, c := range text[len(text)-n:] {
		if int(c) != n {
			return 0, false
		}
	}
	return n, true
}

// inverse checks that b is opened if and only if its text is right, and that Seal then gives b back.
func inverse(t *testing.T, key []byte, iv [16]byte, b []byte) bool {
	t.Helper()
	text := unchained(t, key, iv, b)
	n, ok := right(text)
	if !ok {
		corrupt(t, key, iv, b)
		return false
	}
	plain := text[:len(text)-n]
	opened(t, key, iv, b, plain)
	if again, e := cbc.Seal(key, iv, plain); e != api.OK || !bytes.Equal(again, b) {
		t.Fatalf("key %x, iv %x: Seal of what %x is opened to is %x, %d", key, iv, b, again, e)
	}
	return true
}

// P7.2: what is opened is what Seal makes b of: blocks of any bytes, with any key and iv.
func TestAnyBlocks(t *testing.T) {
	r := rand.New(rand.NewSource(17))
	rights := 0
	for range 5000 {
		key := make([]byte, sizes[r.Intn(3)])
		b := make([]byte, 16*(1+r.Intn(3)))
		var iv [16]byte
		r.Read(key)
		r.Read(b)
		r.Read(iv[:])
		if inverse(t, key, iv, b) {
			rights++
		}
	}
	if rights == 0 {
		t.Error("no blocks were opened: the other side of the test is empty")
	}
}

// P7.2: with another key or iv than it was sealed with, and with each bit changed.
func TestChanges(t *testing.T) {
	for _, size := range sizes {
		key, iv := sample(int64(size), size), [16]byte(sample(18, 16))
		for _, n := range []int{0, 1, 15, 16, 17, 31, 40} {
			sealed := agree(t, key, iv, sample(int64(n), n))
			for bit := range 8 * len(sealed) {
				b := bytes.Clone(sealed)
				b[bit/8] ^= 1 << (bit % 8)
				inverse(t, key, iv, b)
			}
			for bit := range 8 * len(key) {
				other := bytes.Clone(key)
				other[bit/8] ^= 1 << (bit % 8)
				inverse(t, other, iv, sealed)
			}
			for bit := range 128 {
				other := iv
				other[bit/8] ^= 1 << (bit % 8)
				inverse(t, key, other, sealed)
			}
		}
	}
}

// P7.2: blocks that are left out, repeated or exchanged.
func TestMovedBlocks(t *testing.T) {
	key, iv := sample(19, 32), [16]byte(sample(20, 16))
	sealed := agree(t, key, iv, sample(21, 70))
	corrupt(t, key, iv, sealed[:64])
	corrupt(t, key, iv, sealed[:16])
	opened(t, key, [16]byte(sealed[:16]), sealed[16:], sample(21, 70)[16:])
	inverse(t, key, iv, sealed[16:])
	for i := 0; i < len(sealed); i += 16 {
		for j := 0; j < len(sealed); j += 16 {
			b := bytes.Clone(sealed)
			copy(b[i:i+16], sealed[j:])
			inverse(t, key, iv, b)
			copy(b[j:j+16], sealed[i:])
			inverse(t, key, iv, b)
			inverse(t, key, iv, append(bytes.Clone(sealed[:i+16]), sealed[j:]...))
		}
	}
}

// P7.1: every block depends on the ones ahead of it and on the iv, and on none behind it.
func TestChain(t *testing.T) {
	key, iv := sample(22, 16), [16]byte(sample(23, 16))
	plain := make([]byte, 16*6)
	sealed := agree(t, key, iv, plain)
	seen := map[[16]byte]int{}
	for i := 0; i < len(sealed); i += 16 {
		if before, ok := seen[[16]byte(sealed[i:])]; ok {
			t.Errorf("the blocks at %d and %d, both of zeros, are sealed alike", before, i)
		}
		seen[[16]byte(sealed[i:])] = i
	}
	for at := range plain {
		changed := bytes.Clone(plain)
		changed[at] = 1
		other := agree(t, key, iv, changed)
		for i := 0; i < len(sealed); i += 16 {
			if same := bytes.Equal(sealed[i:i+16], other[i:i+16]); same != (i+16 <= at) {
				t.Fatalf("byte %d changed: the block at %d is the same: %v", at, i, same)
			}
		}
	}
	for bit := range 128 {
		other := iv
		other[bit/8] ^= 1 << (bit % 8)
		if bytes.Equal(agree(t, key, other, plain)[80:], sealed[80:]) {
			t.Fatalf("bit %d of the iv makes no difference at the end", bit)
		}
	}
}

// P7.1, P7.2: keys, ivs and texts of all kinds.
func TestRandom(t *testing.T) {
	r := rand.New(rand.NewSource(24))
	for range 3000 {
		key := make([]byte, sizes[r.Intn(3)])
		b := make([]byte, r.Intn(300))
		var iv [16]byte
		r.Read(key)
		r.Read(b)
		r.Read(iv[:])
		agree(t, key, iv, b)
	}
}

// R4: the arguments stay as they are, and so does what lies behind them.
func TestArgumentsStay(t *testing.T) {
	iv := [16]byte(sample(25, 16))
	for n := range 70 {
		memory, keys := sample(int64(n), n+64), sample(26, 64)
		for _, size := range sizes {
			sealed := agree(t, keys[:size], iv, memory[:n])
			behind := append(bytes.Clone(sealed), "behind this"...)
			opened(t, keys[:size], iv, behind[:len(sealed)], memory[:n])
			if !bytes.Equal(behind, append(bytes.Clone(sealed), "behind this"...)) {
				t.Fatalf("%d bytes: Open changed its bytes to %x", n, behind)
			}
		}
		cbc.Open(keys[:16], iv, memory[:n/16*16])
		cbc.Open(keys[:16], iv, memory[:n])
		if !bytes.Equal(memory, sample(int64(n), n+64)) || !bytes.Equal(keys, sample(26, 64)) {
			t.Fatalf("%d bytes: the arguments were changed", n)
		}
	}
}

// fill writes into all the memory of b, its spare capacity too.
func fill(b []byte) {
	b = b[:cap(b)]
	for i := range b {
		b[i] = 0xee
	}
}

// R4: results have memory of their own, spare capacity included.
func TestResultsAreNew(t *testing.T) {
	key, iv := sample(27, 32), [16]byte(sample(28, 16))
	for n := range 70 {
		plain := sample(int64(n), n)
		sealed := agree(t, key, iv, plain)
		kept := bytes.Clone(sealed)
		first, _ := cbc.Open(key, iv, sealed)
		second, _ := cbc.Open(key, iv, sealed)
		fill(first)
		if !bytes.Equal(second, plain) || !bytes.Equal(sealed, kept) {
			t.Fatalf("%d bytes: a result of Open shares its memory", n)
		}
		other, _ := cbc.Seal(key, iv, plain)
		fill(other)
		if !bytes.Equal(plain, sample(int64(n), n)) || !bytes.Equal(sealed, kept) {
			t.Fatalf("%d bytes: a result of Seal shares its memory", n)
		}
		if !bytes.Equal(key, sample(27, 32)) {
			t.Fatalf("%d bytes: a result shares the key's memory", n)
		}
	}
}

// R5: a result depends on its arguments alone, not on the calls before or on what their arrays held before.
func TestCallsAreIndependent(t *testing.T) {
	key, iv, plain := sample(29, 16), [16]byte(sample(30, 16)), sample(31, 50)
	sealed := agree(t, key, iv, plain)
	for n := range 70 {
		other := [16]byte(sample(int64(n), 16))
		cbc.Seal(sample(32, n), other, sample(33, n))
		cbc.Seal(sample(32, 32), other, sample(33, n))
		cbc.Open(sample(32, 32), other, sample(33, n))
		cbc.Open(sample(32, 32), other, sample(33, n/16*16))
		if !bytes.Equal(agree(t, key, iv, plain), sealed) {
			t.Fatalf("after calls with %d bytes: another result", n)
		}
	}
	clear(key)
	agree(t, key, iv, plain)
	clear(plain)
	agree(t, key, [16]byte{}, plain)
}
