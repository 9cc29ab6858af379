package wrap_test

import (
	"bytes"
	stdaes "crypto/aes"
	"encoding/binary"
	"encoding/hex"
	"math/rand"
	"testing"

	"garderobe/api"
	"garderobe/wrap"
)

// sizes are the numbers of bytes that a key may have.
var sizes = []int{16, 24, 32}

// usual is what stands ahead of the parts before the first step.
const usual = 0xa6a6a6a6a6a6a6a6

// sample returns n bytes that are the same in every run.
func sample(seed int64, n int) []byte {
	b := make([]byte, n)
	rand.New(rand.NewSource(seed)).Read(b)
	return b
}

func decoded(t *testing.T, text string) []byte {
	t.Helper()
	b, err := hex.DecodeString(text)
	if err != nil {
		t.Fatal(err)
	}
	return b
}

// wrapped returns what the six rounds make of the parts of b with any number ahead of them, by the library's cipher.
func wrapped(t *testing.T, key []byte, ahead uint64, b []byte) []byte {
	t.Helper()
	c, err := stdaes.NewCipher(key)
	if err != nil {
		t.Fatal(err)
	}
	w := append(binary.BigEndian.AppendUint64(nil, ahead), b...)
	block := make([]byte, 16)
	copy(block, w[:8])
	step := uint64(1)
	for range 6 {
		for i := 8; i < len(w); i += 8 {
			copy(block[8:], w[i:i+8])
			c.Encrypt(block, block)
			binary.BigEndian.PutUint64(block, binary.BigEndian.Uint64(block)^step)
			copy(w[i:], block[8:])
			step++
		}
	}
	copy(w, block[:8])
	return w
}

// unwrapped returns the bytes that b is made of, and the number ahead of them.
func unwrapped(t *testing.T, key, w []byte) (uint64, []byte) {
	t.Helper()
	c, err := stdaes.NewCipher(key)
	if err != nil {
		t.Fatal(err)
	}
	b := bytes.Clone(w[8:])
	block := bytes.Clone(w[:16])
	for step := 6 * len(b) / 8; step > 0; step-- {
		i := (step - 1) * 8 % len(b)
		binary.BigEndian.PutUint64(block, binary.BigEndian.Uint64(block)^uint64(step))
		copy(block[8:], b[i:i+8])
		c.Decrypt(block, block)
		copy(b[i:], block[8:])
	}
	return binary.BigEndian.Uint64(block), b
}

// agree checks that b is wrapped as it should be, and unwrapped again. It returns the wrapped bytes.
func agree(t *testing.T, key, b []byte) []byte {
	t.Helper()
	want := wrapped(t, key, usual, b)
	w, e := wrap.Wrap(key, b)
	if e != api.OK || !bytes.Equal(w, want) {
		t.Fatalf("key %x: Wrap of %x is %x, %d, want %x", key, b, w, e, want)
	}
	opened(t, key, w, b)
	return w
}

// opened checks that w is unwrapped to want.
func opened(t *testing.T, key, w, want []byte) {
	t.Helper()
	if b, e := wrap.Unwrap(key, w); e != api.OK || !bytes.Equal(b, want) {
		t.Fatalf("key %x: Unwrap of %x is %x, %d, want %x", key, w, b, e, want)
	}
}

// foreign checks that w is not unwrapped with the key, and that nothing of it is told.
func foreign(t *testing.T, key, w []byte) {
	t.Helper()
	if b, e := wrap.Unwrap(key, w); e != api.ErrKey || len(b) != 0 {
		t.Fatalf("key %x: Unwrap of %x is %x, %d", key, w, b, e)
	}
}

// inverse checks that w is unwrapped if and only if the right number is ahead of its parts.
func inverse(t *testing.T, key, w []byte) bool {
	t.Helper()
	ahead, b := unwrapped(t, key, w)
	if ahead != usual {
		foreign(t, key, w)
		return false
	}
	opened(t, key, w, b)
	if again, e := wrap.Wrap(key, b); e != api.OK || !bytes.Equal(again, w) {
		t.Fatalf("key %x: Wrap of what %x is unwrapped to is %x, %d", key, w, again, e)
	}
	return true
}

// P8.1, P8.2: the examples of RFC 3394.
func TestKnown(t *testing.T) {
	const (
		key  = "000102030405060708090a0b0c0d0e0f101112131415161718191a1b1c1d1e1f"
		data = "00112233445566778899aabbccddeeff000102030405060708090a0b0c0d0e0f"
	)
	cases := []struct {
		keySize, size int
		want          string
	}{
		{16, 16, "1fa68b0a8112b447" + "aef34bd8fb5a7b82" + "9d3e862371d2cfe5"},
		{24, 16, "96778b25ae6ca435" + "f92b5b97c050aed2" + "468ab8a17ad84e5d"},
		{32, 16, "64e8c3f9ce0f5ba2" + "63e9777905818a2a" + "93c8191e7d6e8ae7"},
		{24, 24, "031d33264e15d332" + "68f24ec260743edc" + "e1c6c7ddee725a93" + "6ba814915c6762d2"},
		{32, 24, "a8f9bc1612c68b3f" + "f6e6f4fbe30e71e4" + "769c8b80a32cb895" + "8cd5d17d6b254da1"},
		{32, 32, "28c9f404c4b810f4" + "cbccb35cfb87f826" + "3f5786e2d80ed326" + "cbc7f0e71a99f43b" + "fb988b9b7a02dd21"},
	}
	for _, c := range cases {
		key, b, want := decoded(t, key)[:c.keySize], decoded(t, data)[:c.size], decoded(t, c.want)
		if w := agree(t, key, b); !bytes.Equal(w, want) {
			t.Errorf("key %x: Wrap of %x is %x, want %x", key, b, w, want)
		}
	}
}

// P8.1, P8.2: every number of parts that can be wrapped, with keys of every size.
func TestParts(t *testing.T) {
	for _, size := range sizes {
		for n := 2; n <= 32; n++ {
			key, b := sample(int64(size), size), sample(int64(n), 8*n)
			if w := agree(t, key, b); len(w) != 8*n+8 {
				t.Fatalf("%d bytes become %d", 8*n, len(w))
			}
			agree(t, key, make([]byte, 8*n))
			agree(t, key, bytes.Repeat([]byte{0xa6}, 8*n))
			agree(t, key, bytes.Repeat([]byte{0xff}, 8*n))
			agree(t, make([]byte, size), b)
			agree(t, bytes.Repeat([]byte{0xff}, size), b)
		}
	}
}

// P8.1: the keys of a block, which are 64 bytes, become as many bytes as api says.
func TestKeysOfBlock(t *testing.T) {
	if w := agree(t, sample(1, api.KeySize), sample(2, 2*api.KeySize)); len(w) != api.Wrapped {
		t.Errorf("%d bytes become %d", 2*api.KeySize, len(w))
	}
}

// P8.1: nothing but 2 to 32 whole parts is wrapped.
func TestLengthsToWrap(t *testing.T) {
	memory := sample(3, 1<<16)
	for _, size := range sizes {
		key := sample(int64(size), size)
		refused := func(b []byte) {
			t.Helper()
			if w, e := wrap.Wrap(key, b); e != api.ErrArg || len(w) != 0 {
				t.Errorf("Wrap of %d bytes: %x, %d", len(b), w, e)
			}
		}
		refused(nil)
		refused(make([]byte, 0, 64))
		for n := range 300 {
			if n%8 != 0 || n < 16 || n > 256 {
				refused(memory[:n])
			}
		}
		for _, n := range []int{512, 1024, 2048, 4096, 65535, 65536} {
			refused(memory[:n])
		}
	}
}

// P8.2: nothing but 3 to 33 whole parts is unwrapped, whatever the parts are.
func TestLengthsToUnwrap(t *testing.T) {
	memory := sample(4, 1<<16)
	for _, size := range sizes {
		key := sample(int64(size), size)
		refused := func(w []byte) {
			t.Helper()
			if b, e := wrap.Unwrap(key, w); e != api.ErrArg || len(b) != 0 {
				t.Errorf("Unwrap of %d bytes: %x, %d", len(w), b, e)
			}
		}
		refused(nil)
		refused(make([]byte, 0, 64))
		for n := range 300 {
			if n%8 != 0 || n < 24 || n > 264 {
				refused(memory[:n])
			} else {
				foreign(t, key, memory[:n])
			}
		}
		for _, n := range []int{520, 1032, 2056, 4096, 65535, 65536} {
			refused(memory[:n])
		}
		// What the steps would make of too few or too many parts is no result either.
		for _, n := range []int{1, 33, 34, 64} {
			refused(wrapped(t, key, usual, memory[:8*n]))
		}
		for _, n := range []int{2, 3, 31, 32} {
			w := agree(t, key, memory[:8*n])
			for more := 1; more < 8; more++ {
				refused(append(bytes.Clone(w), make([]byte, more)...))
				refused(append(bytes.Clone(w), w[:more]...))
				refused(w[:len(w)-more])
				refused(w[more:])
			}
		}
	}
}

// P8.1, P8.2: keys that are not valid, whatever the bytes are.
func TestKeys(t *testing.T) {
	good := agree(t, sample(5, 16), sample(6, 16))
	keys := [][]byte{nil, make([]byte, 0, 16), sample(5, 64), sample(5, 128), sample(5, 256), sample(5, 1<<16)}
	for n := range 50 {
		if n != 16 && n != 24 && n != 32 {
			keys = append(keys, sample(5, n))
		}
	}
	for _, key := range keys {
		for _, b := range [][]byte{nil, {}, good, good[:16], good[:23], good[:8], make([]byte, 256), make([]byte, 264), make([]byte, 272)} {
			if w, e := wrap.Wrap(key, b); e != api.ErrArg || len(w) != 0 {
				t.Errorf("key of %d bytes: Wrap of %d bytes: %x, %d", len(key), len(b), w, e)
			}
			if plain, e := wrap.Unwrap(key, b); e != api.ErrArg || len(plain) != 0 {
				t.Errorf("key of %d bytes: Unwrap of %d bytes: %x, %d", len(key), len(b), plain, e)
			}
		}
	}
}

// P8.2: each bit of what stands ahead of the parts is examined.
func TestAhead(t *testing.T) {
	for _, size := range sizes {
		key := sample(int64(size), size)
		for _, n := range []int{2, 3, 8, 32} {
			b := sample(int64(n), 8*n)
			for bit := range 64 {
				foreign(t, key, wrapped(t, key, usual^1<<bit, b))
			}
			for _, ahead := range []uint64{0, 0xa6, 0xa6 << 56, 0xa6a6a6a6, 0xa6a6a6a6 << 32, 0xa65959a600000000 | uint64(8*n), ^uint64(usual), 1<<64 - 1} {
				foreign(t, key, wrapped(t, key, ahead, b))
			}
			opened(t, key, wrapped(t, key, usual, b), b)
		}
	}
}

// P8.2: with another key than it was wrapped with, and with each bit changed.
func TestChanges(t *testing.T) {
	for _, size := range sizes {
		key := sample(int64(size), size)
		for _, n := range []int{2, 3, 8} {
			w := agree(t, key, sample(int64(n), 8*n))
			for bit := range 8 * len(w) {
				changed := bytes.Clone(w)
				changed[bit/8] ^= 1 << (bit % 8)
				foreign(t, key, changed)
			}
			for bit := range 8 * len(key) {
				other := bytes.Clone(key)
				other[bit/8] ^= 1 << (bit % 8)
				foreign(t, other, w)
			}
			for _, other := range sizes {
				if other != size {
					foreign(t, sample(int64(other), other), w)
				}
			}
			foreign(t, make([]byte, size), w)
			foreign(t, key, make([]byte, len(w)))
			foreign(t, key, bytes.Repeat([]byte{0xa6}, len(w)))
		}
	}
}

// P8.2: parts that are left out, added, repeated or exchanged, and bytes that never were wrapped.
func TestMovedParts(t *testing.T) {
	key, b := sample(7, 24), sample(8, 64)
	w := agree(t, key, b)
	foreign(t, key, w[8:])
	foreign(t, key, w[:len(w)-8])
	foreign(t, key, append(bytes.Clone(w), w[:8]...))
	foreign(t, key, append(make([]byte, 8), w...))
	foreign(t, key, b)
	foreign(t, key, append(bytes.Repeat([]byte{0xa6}, 8), b...))
	for i := 0; i < len(w); i += 8 {
		for j := 0; j < i; j += 8 {
			changed := bytes.Clone(w)
			copy(changed[i:i+8], w[j:])
			foreign(t, key, changed)
			copy(changed[j:j+8], w[i:])
			foreign(t, key, changed)
		}
	}
}

// P8.2: bytes of all kinds are unwrapped only if they are a result of Wrap.
func TestAnyBytes(t *testing.T) {
	r := rand.New(rand.NewSource(9))
	rights := 0
	for i := range 2000 {
		key := make([]byte, sizes[r.Intn(3)])
		w := make([]byte, 8*(3+r.Intn(31)))
		r.Read(key)
		r.Read(w)
		if i%4 == 0 {
			w = wrapped(t, key, usual, w[8:])
		}
		if inverse(t, key, w) {
			rights++
		}
	}
	if rights != 500 {
		t.Errorf("%d texts were unwrapped, want 500", rights)
	}
}

// P8.1: what is wrapped can be wrapped again, and unwrapped in the other order.
func TestTwice(t *testing.T) {
	inner, outer, b := sample(10, 16), sample(11, 32), sample(12, 40)
	w := agree(t, inner, b)
	again := agree(t, outer, w)
	foreign(t, inner, again)
	opened(t, outer, again, w)
	opened(t, inner, w, b)
}

// P8.1, P8.2: keys and bytes of all kinds.
func TestRandom(t *testing.T) {
	r := rand.New(rand.NewSource(13))
	for range 1500 {
		key := make([]byte, sizes[r.Intn(3)])
		b := make([]byte, 8*(2+r.Intn(31)))
		r.Read(key)
		r.Read(b)
		agree(t, key, b)
	}
}

// R4: the arguments stay as they are, and so does what lies behind them.
func TestArgumentsStay(t *testing.T) {
	for n := range 50 {
		memory, keys := sample(int64(n), n+64), sample(14, 64)
		for _, size := range sizes {
			wrap.Wrap(keys[:size], memory[:n])
			wrap.Unwrap(keys[:size], memory[:n])
			if n%8 != 0 || n < 16 {
				continue
			}
			w := agree(t, keys[:size], memory[:n])
			behind := append(bytes.Clone(w), "behind this"...)
			opened(t, keys[:size], behind[:len(w)], memory[:n])
			if !bytes.Equal(behind, append(bytes.Clone(w), "behind this"...)) {
				t.Fatalf("%d bytes: Unwrap changed its bytes to %x", n, behind)
			}
		}
		wrap.Wrap(keys[:17], memory[:n])
		wrap.Unwrap(keys[:17], memory[:n])
		if !bytes.Equal(memory, sample(int64(n), n+64)) || !bytes.Equal(keys, sample(14, 64)) {
			t.Fatalf("%d bytes: the arguments were changed", n)
		}
	}
}

// fill writes into all the memory of b, its spare capacity too.
func fill(b []byte) {
	b = b[:cap(b)]
	for i := range b {
		b[i] = 0xee
	}
}

// R4: results have memory of their own, spare capacity included.
func TestResultsAreNew(t *testing.T) {
	key := sample(15, 32)
	for n := 2; n <= 32; n++ {
		b := sample(int64(n), 8*n)
		w := agree(t, key, b)
		kept := bytes.Clone(w)
		first, _ := wrap.Unwrap(key, w)
		second, _ := wrap.Unwrap(key, w)
		fill(first)
		if !bytes.Equal(second, b) || !bytes.Equal(w, kept) {
			t.Fatalf("%d parts: a result of Unwrap shares its memory", n)
		}
		other, _ := wrap.Wrap(key, b)
		fill(other)
		if !bytes.Equal(b, sample(int64(n), 8*n)) || !bytes.Equal(w, kept) {
			t.Fatalf("%d parts: a result of Wrap shares its memory", n)
		}
		if !bytes.Equal(key, sample(15, 32)) {
			t.Fatalf("%d parts: a result shares the key's memory", n)
		}
		agree(t, key, b)
	}
}

// R5: a result depends on its arguments alone, not on the calls before or on what their arrays held before.
func TestCallsAreIndependent(t *testing.T) {
	key, b := sample(16, 16), sample(17, 48)
	w := agree(t, key, b)
	for n := range 50 {
		wrap.Wrap(sample(18, n), sample(19, 8*n))
		wrap.Wrap(sample(18, 32), sample(19, 8*n))
		wrap.Unwrap(sample(18, 32), sample(19, 8*n))
		wrap.Unwrap(key, w[:n])
		if !bytes.Equal(agree(t, key, b), w) {
			t.Fatalf("after calls with %d parts: another result", n)
		}
	}
	clear(key)
	agree(t, key, b)
	clear(b)
	agree(t, key, b)
}
