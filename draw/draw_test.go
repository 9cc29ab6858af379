package draw_test

import (
	"bytes"
	"crypto/sha256"
	"encoding/binary"
	"encoding/hex"
	"math"
	"math/rand"
	"slices"
	"testing"

	"garderobe/api"
	"garderobe/draw"
)

// size is the number of bytes of a block's keys.
const size = 64

// numbers are IDs and generations of all kinds, extreme ones among them.
var numbers = []int{
	0, 1, -1, 2, -2, 12, 127, 128, 255, 256, -255, -256, 65535, 65536, api.MaxEpoch,
	math.MaxInt32, math.MinInt32, math.MaxUint32, math.MaxUint32 + 1, math.MaxInt, math.MaxInt - 1, math.MinInt, math.MinInt + 1,
	0x0102030405060708, -0x0102030405060708,
}

// sample returns n bytes that are the same in every run.
func sample(seed int64, n int) []byte {
	b := make([]byte, n)
	rand.New(rand.NewSource(seed)).Read(b)
	return b
}

func decoded(t *testing.T, text string) []byte {
	t.Helper()
	b, err := hex.DecodeString(text)
	if err != nil {
		t.Fatal(err)
	}
	return b
}

// derived returns the library's digest of the kind's byte, both numbers and the random bytes.
func derived(kind byte, id, gen int, random []byte) [32]byte {
	text := []byte{kind}
	text = binary.BigEndian.AppendUint64(text, uint64(id))
	text = binary.BigEndian.AppendUint64(text, uint64(gen))
	return sha256.Sum256(append(text, random...))
}

// agree checks the keys and the iv that are derived.
func agree(t *testing.T, id, gen int, random []byte) {
	t.Helper()
	want := api.Keys{Enc: derived(1, id, gen, random), Mac: derived(2, id, gen, random)}
	if k := draw.Keys(id, gen, random); k != want {
		t.Fatalf("Keys(%d, %d, %x) = %x, want %x", id, gen, random, k, want)
	}
	third := derived(3, id, gen, random)
	if iv := draw.IV(id, gen, random); iv != [16]byte(third[:16]) {
		t.Fatalf("IV(%d, %d, %x) = %x, want %x", id, gen, random, iv, third[:16])
	}
}

// keysOf returns the keys whose bytes are b, which must be 64.
func keysOf(b []byte) api.Keys {
	return api.Keys{Enc: [32]byte(b[:32]), Mac: [32]byte(b[32:])}
}

// thereAndBack checks that the keys and their bytes, which must be 64, become each other.
func thereAndBack(t *testing.T, b []byte) {
	t.Helper()
	k := keysOf(b)
	if got := draw.Bytes(k); !bytes.Equal(got, b) {
		t.Fatalf("Bytes of %x is %x", k, got)
	}
	if got, e := draw.From(b); e != api.OK || got != k {
		t.Fatalf("From(%x) is %x, %d", b, got, e)
	}
}

// refused checks that no keys come out of b.
func refused(t *testing.T, b []byte) {
	t.Helper()
	if k, e := draw.From(b); e != api.ErrForm || k != (api.Keys{}) {
		t.Errorf("From of %d bytes is %x, %d", len(b), k, e)
	}
}

// P9.1: digests that were computed by another program.
func TestKnown(t *testing.T) {
	cases := []struct {
		id, gen      int
		random       string
		enc, mac, iv string
	}{
		{
			0, 0, "",
			"f0d278eacbee4eeac1f3cc75d5efda8dc5dff129bed3da9ad3b0e11fc64ae910",
			"401da6ea6a614dd6d773b1ba84c91ee6d981827bd0bdc5188aa2e5dbffba558c",
			"6ad36d3f69c5684bd1021eeb3a803825",
		},
		{
			1, 2, "",
			"937ddabefd75564a200c78280fa08dc7dec5bfbf37f1d1ac0be40ffd8f2db95c",
			"c453ea16034b5ba20d6cd906df43dbc7c2603cc2dfe335f0f0942322557eafd7",
			"2dd2822f5acac7ebabbe73b0cc455328",
		},
		{
			2, 1, "",
			"86d2b876b216e382feadf428053b67a5f94d7b34a416ea91dee138bfd71ff031",
			"cb2703b9720b5fbda8b2ec54dbbc466738151ac46475544970e4bac258e96c1d",
			"7826cb31d7b0b1ae1b1cc964d4b54878",
		},
		{
			-1, -1, "000102030405060708090a0b0c0d0e0f101112131415161718191a1b1c1d1e1f",
			"e2100c345cf0b9486377ac9e16e67a2633ef5b34cd45401f104dde089d69e04e",
			"2c20456848468481b9c0db9b69ff8533b6fb5f9e36bcf160b4dfd63be884c82e",
			"8a384f8b99c67bec35b1634f50f20f16",
		},
		{
			math.MaxInt, math.MinInt, "00",
			"6718f97302b8d64e70a3e16aa8cfd642ee6363bbd06fb68f9c200a3d5973bc5c",
			"407ee95ad58f93b00918b929456a4f90ef6a72b158cc34837749cf6bc0026414",
			"b568b6841d88af05627cc6c02c014848",
		},
		{
			math.MinInt, math.MaxInt, "00",
			"e9daa41d88f7429bfeee07135c0b747d995d4cf508c07c7da3e16a6efb5a07d3",
			"2335a2d594cf1a50112be5b0eb3455874924e93ac9b5a7ddb45d69f5379bfd86",
			"848e9a62a26d3637bfc48c2ffff5bd74",
		},
	}
	for _, c := range cases {
		random := decoded(t, c.random)
		want := keysOf(decoded(t, c.enc+c.mac))
		if k := draw.Keys(c.id, c.gen, random); k != want {
			t.Errorf("Keys(%d, %d, %s) = %x, want %x", c.id, c.gen, c.random, k, want)
		}
		if iv := draw.IV(c.id, c.gen, random); hex.EncodeToString(iv[:]) != c.iv {
			t.Errorf("IV(%d, %d, %s) = %x, want %s", c.id, c.gen, c.random, iv, c.iv)
		}
	}
}

// P9.1, R1: numbers of all kinds in both places.
func TestNumbers(t *testing.T) {
	for _, random := range [][]byte{nil, sample(1, 32)} {
		for _, id := range numbers {
			for _, gen := range numbers {
				agree(t, id, gen, random)
			}
		}
	}
}

// P9.1: each bit of both numbers counts, in all that is derived.
func TestBitsOfNumbers(t *testing.T) {
	random := sample(2, 32)
	keys, iv := draw.Keys(5, 9, random), draw.IV(5, 9, random)
	for bit := range 64 {
		for _, n := range [][2]int{{5 ^ 1<<bit, 9}, {5, 9 ^ 1<<bit}} {
			agree(t, n[0], n[1], random)
			k := draw.Keys(n[0], n[1], random)
			if k.Enc == keys.Enc || k.Mac == keys.Mac || draw.IV(n[0], n[1], random) == iv {
				t.Fatalf("%d, %d: bit %d makes no difference", n[0], n[1], bit)
			}
		}
	}
}

// P9.1, R1: any number of random bytes, none among them.
func TestLengthsOfDraw(t *testing.T) {
	for n := range 300 {
		agree(t, 3, 7, sample(int64(n), n))
		agree(t, 3, 7, make([]byte, n))
		agree(t, 3, 7, bytes.Repeat([]byte{0xff}, n))
	}
	for _, n := range []int{1023, 1024, 4096, 65535, 65536, 1 << 20, 1<<20 + 1} {
		agree(t, 3, 7, sample(int64(n), n))
	}
}

// P9.1: each bit of the random bytes counts, in all that is derived.
func TestBitsOfDraw(t *testing.T) {
	for _, n := range []int{1, 16, 32, 48, 64, 150} {
		random := sample(int64(n), n)
		keys, iv := draw.Keys(1, 1, random), draw.IV(1, 1, random)
		for bit := range 8 * n {
			other := bytes.Clone(random)
			other[bit/8] ^= 1 << (bit % 8)
			agree(t, 1, 1, other)
			k := draw.Keys(1, 1, other)
			if k.Enc == keys.Enc || k.Mac == keys.Mac || draw.IV(1, 1, other) == iv {
				t.Fatalf("%d bytes: bit %d makes no difference", n, bit)
			}
		}
	}
}

// P9.1: random bytes that begin or end with what stands ahead of them.
func TestDrawLikeHead(t *testing.T) {
	for _, id := range numbers {
		number := binary.BigEndian.AppendUint64(nil, uint64(id))
		for kind := range 5 {
			for _, random := range [][]byte{
				{byte(kind)},
				number,
				slices.Concat([]byte{byte(kind)}, number),
				slices.Concat([]byte{byte(kind)}, number, number),
				slices.Concat(number, []byte{byte(kind)}),
			} {
				agree(t, id, id, random)
				agree(t, 0, id, random)
				agree(t, id, 0, random)
			}
		}
	}
}

// P9.1, R4: nil and empty draws are the same, spare capacity or not.
func TestNoDraw(t *testing.T) {
	want, iv := draw.Keys(1, 2, nil), draw.IV(1, 2, nil)
	for _, none := range [][]byte{{}, make([]byte, 0, 64), sample(3, 64)[:0]} {
		if draw.Keys(1, 2, none) != want || draw.IV(1, 2, none) != iv {
			t.Errorf("an empty slice of capacity %d makes a difference", cap(none))
		}
	}
	agree(t, 1, 2, nil)
}

// P9.1: arguments of all kinds.
func TestRandom(t *testing.T) {
	r := rand.New(rand.NewSource(4))
	for range 3000 {
		random := make([]byte, r.Intn(200))
		r.Read(random)
		agree(t, int(r.Uint64()), int(r.Uint64()), random)
		agree(t, r.Intn(20), r.Intn(20), random)
	}
}

// P9.2: keys of all kinds become 64 bytes and the same keys again.
func TestThereAndBack(t *testing.T) {
	for i := range 1000 {
		thereAndBack(t, sample(int64(i), size))
	}
	for c := range 256 {
		thereAndBack(t, bytes.Repeat([]byte{byte(c)}, size))
		thereAndBack(t, slices.Concat(bytes.Repeat([]byte{byte(c)}, 32), make([]byte, 32)))
		thereAndBack(t, slices.Concat(make([]byte, 32), bytes.Repeat([]byte{byte(c)}, 32)))
	}
	for bit := range 8 * size {
		b := make([]byte, size)
		b[bit/8] = 1 << (bit % 8)
		thereAndBack(t, b)
	}
}

// P9.2: the bytes of Enc come first, in their order, then those of Mac.
func TestOrder(t *testing.T) {
	var k api.Keys
	for i := range 32 {
		k.Enc[i], k.Mac[i] = byte(i), byte(100+i)
	}
	b := draw.Bytes(k)
	if len(b) != size {
		t.Fatalf("%d bytes", len(b))
	}
	for i := range 32 {
		if b[i] != byte(i) || b[32+i] != byte(100+i) {
			t.Errorf("byte %d is %d, byte %d is %d", i, b[i], 32+i, b[32+i])
		}
	}
	if b := draw.Bytes(api.Keys{}); !bytes.Equal(b, make([]byte, size)) {
		t.Errorf("zero keys become %x", b)
	}
	if k, e := draw.From(make([]byte, size)); e != api.OK || k != (api.Keys{}) {
		t.Errorf("zero bytes become %x, %d", k, e)
	}
}

// P9.1, P9.2: derived keys become their bytes and themselves again.
func TestDerivedKeys(t *testing.T) {
	for _, id := range numbers {
		k := draw.Keys(id, 1, sample(5, 32))
		thereAndBack(t, slices.Concat(k.Enc[:], k.Mac[:]))
	}
}

// P9.2: nothing but 64 bytes is accepted, whatever the capacity and the bytes are.
func TestLengthsOfKeys(t *testing.T) {
	refused(t, nil)
	refused(t, []byte{})
	memory := sample(6, 1<<17)
	for n := range 1000 {
		if n == size {
			continue
		}
		refused(t, memory[:n])
		refused(t, memory[:n:n])
		refused(t, make([]byte, n))
		refused(t, make([]byte, n, max(n, size)))
	}
	for _, n := range []int{1 << 8, 1 << 16, 1<<8 + size, 1<<16 + size, 1 << 17} {
		refused(t, memory[:n])
	}
	thereAndBack(t, memory[:size])
	thereAndBack(t, memory[:size:size])
	thereAndBack(t, memory[len(memory)-size:])
}

// R4: the arguments stay as they are, and so does what lies behind them.
func TestArgumentsStay(t *testing.T) {
	for n := range 200 {
		memory := sample(int64(n), n+130)
		draw.Keys(n, -n, memory[:n])
		draw.IV(n, -n, memory[:n])
		draw.From(memory[:n])
		if !bytes.Equal(memory, sample(int64(n), n+130)) {
			t.Fatalf("%d bytes: the argument was changed", n)
		}
	}
}

// R4: bytes of keys have memory of their own, spare capacity included, and keys share none with theirs.
func TestResultsAreNew(t *testing.T) {
	b := sample(7, size)
	k, _ := draw.From(b)
	clear(b)
	if k != keysOf(sample(7, size)) {
		t.Fatal("keys share the memory of their bytes")
	}
	first, second := draw.Bytes(k), draw.Bytes(k)
	clear(first[:cap(first)])
	if !bytes.Equal(second, sample(7, size)) {
		t.Fatal("two results of Bytes share their memory")
	}
	thereAndBack(t, second)
}

// R5: a result depends on the arguments alone, not on the calls before or on what their arrays held before.
func TestCallsAreIndependent(t *testing.T) {
	random := sample(8, 48)
	keys, iv := draw.Keys(1, 2, random), draw.IV(1, 2, random)
	for n := range 100 {
		draw.Keys(n, n+1, sample(9, n))
		draw.IV(n+1, n, sample(9, n))
		draw.From(sample(9, n))
		if draw.Keys(1, 2, random) != keys || draw.IV(1, 2, random) != iv {
			t.Fatalf("after a draw of %d bytes: another result", n)
		}
	}
	clear(random)
	agree(t, 1, 2, random)
}
