package aes_test

import (
	"bytes"
	stdaes "crypto/aes"
	"encoding/hex"
	"math/rand"
	"testing"

	"garderobe/aes"
	"garderobe/api"
)

// sizes are the numbers of bytes that a key may have.
var sizes = []int{16, 24, 32}

// block returns the 16 bytes of a hexadecimal text.
func block(t *testing.T, text string) [16]byte {
	t.Helper()
	b := decoded(t, text)
	if len(b) != 16 {
		t.Fatalf("%q has %d bytes", text, len(b))
	}
	return [16]byte(b)
}

func decoded(t *testing.T, text string) []byte {
	t.Helper()
	b, err := hex.DecodeString(text)
	if err != nil {
		t.Fatal(err)
	}
	return b
}

// cipher returns the cipher of a key that is valid.
func cipher(t *testing.T, key []byte) *aes.Cipher {
	t.Helper()
	c, e := aes.New(key)
	if c == nil || e != api.OK {
		t.Fatalf("New(%x) = %v, %d", key, c, e)
	}
	return c
}

// counting returns the key 00 01 02 .. of n bytes.
func counting(n int) []byte {
	key := make([]byte, n)
	for i := range key {
		key[i] = byte(i)
	}
	return key
}

// random returns n bytes; the same seed gives the same ones.
func random(r *rand.Rand, n int) []byte {
	b := make([]byte, n)
	r.Read(b)
	return b
}

// P4.1: known blocks, those of the document, of FIPS 197 and of NIST SP 800-38A among them.
func TestKnown(t *testing.T) {
	const (
		key128 = "2b7e151628aed2a6abf7158809cf4f3c"
		key192 = "8e73b0f7da0e6452c810f32b809079e562f8ead2522c6b7b"
		key256 = "603deb1015ca71be2b73aef0857d77811f352c073b6108d72d9810a30914dff4"
		zeros  = "00000000000000000000000000000000"
	)
	cases := []struct{ key, plain, want string }{
		{"000102030405060708090a0b0c0d0e0f", "00112233445566778899aabbccddeeff", "69c4e0d86a7b0430d8cdb78070b4c55a"},
		{"000102030405060708090a0b0c0d0e0f1011121314151617", "00112233445566778899aabbccddeeff", "dda97ca4864cdfe06eaf70a0ec0d7191"},
		{"000102030405060708090a0b0c0d0e0f101112131415161718191a1b1c1d1e1f", "00112233445566778899aabbccddeeff", "8ea2b7ca516745bfeafc49904b496089"},
		{key128, "3243f6a8885a308d313198a2e0370734", "3925841d02dc09fbdc118597196a0b32"},
		{key128, "6bc1bee22e409f96e93d7e117393172a", "3ad77bb40d7a3660a89ecaf32466ef97"},
		{key128, "ae2d8a571e03ac9c9eb76fac45af8e51", "f5d3d58503b9699de785895a96fdbaaf"},
		{key192, "6bc1bee22e409f96e93d7e117393172a", "bd334f1d6e45f25ff712a214571fa5cc"},
		{key192, "ae2d8a571e03ac9c9eb76fac45af8e51", "974104846d0ad3ad7734ecb3ecee4eef"},
		{key256, "6bc1bee22e409f96e93d7e117393172a", "f3eed1bdb5d2a03c064b5a7e3db181f8"},
		{key256, "ae2d8a571e03ac9c9eb76fac45af8e51", "591ccb10d410ed26dc5ba74a31362870"},
		{zeros, zeros, "66e94bd4ef8a2c3b884cfa59ca342b2e"},
	}
	for _, x := range cases {
		c := cipher(t, decoded(t, x.key))
		plain, want := block(t, x.plain), block(t, x.want)
		if got := c.Encrypt(plain); got != want {
			t.Errorf("key %s: Encrypt(%x) = %x, want %x", x.key, plain, got, want)
		}
		if got := c.Decrypt(want); got != plain {
			t.Errorf("key %s: Decrypt(%x) = %x, want %x", x.key, want, got, plain)
		}
	}
}

// agree checks both directions against the library's AES, and that they are inverse to each other.
func agree(t *testing.T, key []byte, b [16]byte) {
	t.Helper()
	c := cipher(t, key)
	oracle, err := stdaes.NewCipher(key)
	if err != nil {
		t.Fatal(err)
	}
	var there, back [16]byte
	oracle.Encrypt(there[:], b[:])
	oracle.Decrypt(back[:], b[:])
	if got := c.Encrypt(b); got != there {
		t.Fatalf("key %x: Encrypt(%x) = %x, want %x", key, b, got, there)
	}
	if got := c.Decrypt(b); got != back {
		t.Fatalf("key %x: Decrypt(%x) = %x, want %x", key, b, got, back)
	}
	if got := c.Decrypt(there); got != b {
		t.Fatalf("key %x: Decrypt(Encrypt(%x)) = %x", key, b, got)
	}
	if got := c.Encrypt(back); got != b {
		t.Fatalf("key %x: Encrypt(Decrypt(%x)) = %x", key, b, got)
	}
}

// P4.1: keys and blocks of all kinds of bytes.
func TestAgainstLibrary(t *testing.T) {
	r := rand.New(rand.NewSource(4))
	for _, n := range sizes {
		for range 200 {
			agree(t, random(r, n), [16]byte(random(r, 16)))
		}
	}
}

// P4.1: each bit of the key and of the block counts, and zeros and ones everywhere are ordinary.
func TestExtremes(t *testing.T) {
	for _, n := range sizes {
		zeros, ones := make([]byte, n), bytes.Repeat([]byte{0xff}, n)
		agree(t, zeros, [16]byte{})
		agree(t, ones, [16]byte{})
		agree(t, zeros, [16]byte(ones))
		agree(t, ones, [16]byte(ones))
		for bit := range 8 * n {
			key := make([]byte, n)
			key[bit/8] = 1 << (bit % 8)
			agree(t, key, [16]byte{})
		}
		for bit := range 128 {
			var b [16]byte
			b[bit/8] = 1 << (bit % 8)
			agree(t, counting(n), b)
		}
	}
}

// P4.1, R1, R3: a key of any other size is refused, and there is no cipher then.
func TestKeyOfOtherSize(t *testing.T) {
	if c, e := aes.New(nil); c != nil || e != api.ErrArg {
		t.Errorf("New(nil) = %v, %d", c, e)
	}
	for n := range 130 {
		c, e := aes.New(make([]byte, n, n+32))
		valid := n == 16 || n == 24 || n == 32
		if valid && (c == nil || e != api.OK) {
			t.Errorf("New of %d bytes = %v, %d", n, c, e)
		}
		if !valid && (c != nil || e != api.ErrArg) {
			t.Errorf("New of %d bytes = %v, %d", n, c, e)
		}
	}
	for _, n := range []int{256, 65536 + 16, 1<<20 + 32} {
		if c, e := aes.New(make([]byte, n)); c != nil || e != api.ErrArg {
			t.Errorf("New of %d bytes = %v, %d", n, c, e)
		}
	}
}

// Without a cipher a block stays as it is; so it does for one that New did not make (R1).
func TestNoCipher(t *testing.T) {
	var none *aes.Cipher
	r := rand.New(rand.NewSource(5))
	for _, c := range []*aes.Cipher{none, new(aes.Cipher)} {
		for _, b := range [][16]byte{{}, {15: 1}, [16]byte(counting(16)), [16]byte(random(r, 16))} {
			if got := c.Encrypt(b); got != b {
				t.Errorf("Encrypt(%x) = %x", b, got)
			}
			if got := c.Decrypt(b); got != b {
				t.Errorf("Decrypt(%x) = %x", b, got)
			}
		}
	}
}

// R4: neither the key nor what lies behind it nor a block is changed, and none of them is kept.
func TestArgumentsStay(t *testing.T) {
	for _, n := range sizes {
		room := counting(2 * n)
		key := room[:n]
		c := cipher(t, key)
		b := [16]byte(counting(16))
		first := c.Encrypt(b)
		back := c.Decrypt(b)
		if !bytes.Equal(room, counting(2*n)) || b != [16]byte(counting(16)) {
			t.Errorf("%d bytes: changed to %x, %x", n, room, b)
		}
		clear(room)
		if got := c.Encrypt(b); got != first {
			t.Errorf("%d bytes: Encrypt after the key's array changed: %x, want %x", n, got, first)
		}
		if got := c.Decrypt(b); got != back {
			t.Errorf("%d bytes: Decrypt after the key's array changed: %x, want %x", n, got, back)
		}
	}
}

// R5: what a cipher returns depends on its key and the block alone, not on the calls before or on other ciphers.
func TestCallsAreIndependent(t *testing.T) {
	b := [16]byte(counting(16))
	one, other := cipher(t, counting(16)), cipher(t, bytes.Repeat([]byte{7}, 32))
	first, second := one.Encrypt(b), other.Encrypt(b)
	if first == second {
		t.Fatal("two keys give one result")
	}
	for range 3 {
		other.Decrypt(one.Encrypt(other.Encrypt(first)))
		one.Decrypt(second)
		if one.Encrypt(b) != first || other.Encrypt(b) != second {
			t.Fatal("a later call gives another result")
		}
		if again := cipher(t, counting(16)); again.Encrypt(b) != first {
			t.Fatal("another cipher of the same key gives another result")
		}
	}
}
