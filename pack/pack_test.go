package pack_test

import (
	"bytes"
	"math/rand"
	"slices"
	"strings"
	"testing"

	"garderobe/api"
	"garderobe/lz"
	"garderobe/pack"
	"garderobe/token"
)

// most is the limit of the chapter.
const most = 1024

// sample returns n bytes that are the same in every run.
func sample(seed int64, n int) []byte {
	b := make([]byte, n)
	rand.New(rand.NewSource(seed)).Read(b)
	return b
}

// few returns n bytes of only so many kinds, so that they are full of matches.
func few(seed int64, n, kinds int) []byte {
	r := rand.New(rand.NewSource(seed))
	b := make([]byte, n)
	for i := range b {
		b[i] = byte(r.Intn(kinds))
	}
	return b
}

// distinct returns n bytes, at most 1024, without any three that come twice.
func distinct(n int) []byte {
	b := make([]byte, n)
	for i := range b {
		b[i] = byte(i * (1 + 2*(i/256)))
	}
	return b
}

// encoded returns the encoding of the tokens of b.
func encoded(t *testing.T, b []byte) []byte {
	t.Helper()
	small, e := token.Encode(lz.Tokens(b))
	if e != api.OK {
		t.Fatalf("the tokens of %.60x (%d bytes) are not encoded: %d", b, len(b), e)
	}
	return small
}

// packed returns what becomes of 1024 bytes or fewer, by the chapter's sentences.
func packed(t *testing.T, b []byte) []byte {
	t.Helper()
	if small := encoded(t, b); len(small) < len(b) {
		return slices.Concat([]byte{1}, small)
	}
	return slices.Concat([]byte{0}, b)
}

// unpacked returns what p holds, by the sentences of the chapters, and without the layers below.
func unpacked(p []byte) (b []byte, ok bool) {
	if len(p) > 0 && p[0] == 0 {
		return p[1:], len(p)-1 <= most
	}
	if len(p) == 0 || p[0] != 1 {
		return nil, false
	}
	for at := 1; at < len(p); {
		n := int(p[at]) + 1
		if n <= 128 {
			if at+1+n > len(p) {
				return nil, false
			}
			b = append(b, p[at+1:at+1+n]...)
			at += 1 + n
			continue
		}
		if at+3 > len(p) || p[at+1] >= 16 {
			return nil, false
		}
		dist := 256*int(p[at+1]) + int(p[at+2]) + 1
		if dist > len(b) {
			return nil, false
		}
		for range int(p[at]) - 125 {
			b = append(b, b[len(b)-dist])
		}
		at += 3
	}
	return b, len(b) <= most
}

// restores checks that p is unpacked as that block.
func restores(t *testing.T, p, want []byte) {
	t.Helper()
	if b, e := pack.Unpack(p); e != api.OK || !bytes.Equal(b, want) {
		t.Fatalf("Unpack(%.60x) (%d bytes) = %.60x (%d bytes), %d, want %.60x (%d bytes)", p, len(p), b, len(b), e, want, len(want))
	}
}

// thereAndBack checks that a block becomes those packed bytes, and these become the block again.
func thereAndBack(t *testing.T, b, want []byte) {
	t.Helper()
	if p, e := pack.Pack(b); e != api.OK || !bytes.Equal(p, want) {
		t.Fatalf("Pack(%.60x) (%d bytes) = %.60x (%d bytes), %d, want %.60x (%d bytes)", b, len(b), p, len(p), e, want, len(want))
	}
	if len(want) > len(b)+1 {
		t.Fatalf("Pack(%.60x) has %d bytes instead of %d", b, len(want), len(b))
	}
	restores(t, want, b)
}

// agree checks a block against the chapter's sentences.
func agree(t *testing.T, b []byte) {
	t.Helper()
	thereAndBack(t, b, packed(t, b))
}

// refused checks that a block is not packed, and that no bytes are returned.
func refused(t *testing.T, b []byte) {
	t.Helper()
	if p, e := pack.Pack(b); e != api.ErrOver || len(p) != 0 {
		t.Fatalf("Pack(%.60x) (%d bytes) = %.60x (%d bytes), %d", b, len(b), p, len(p), e)
	}
}

// corrupt checks that bytes are not unpacked, and that no bytes are returned.
func corrupt(t *testing.T, p []byte) {
	t.Helper()
	if b, e := pack.Unpack(p); e != api.ErrCorrupt || len(b) != 0 {
		t.Fatalf("Unpack(%.60x) (%d bytes) = %.60x (%d bytes), %d", p, len(p), b, len(b), e)
	}
}

// decides checks that bytes are unpacked if and only if they hold a block, and then as that.
func decides(t *testing.T, p []byte) bool {
	t.Helper()
	want, ok := unpacked(p)
	if !ok {
		corrupt(t, p)
		return false
	}
	if len(want) > most {
		t.Fatalf("%.60x (%d bytes) holds %d bytes", p, len(p), len(want))
	}
	restores(t, p, want)
	return true
}

// P13.1, P13.2: packed bytes that were worked out by hand, the chapter's examples among them.
func TestKnown(t *testing.T) {
	for _, c := range []struct{ b, want string }{
		{"", "\x00"},
		{"a", "\x00a"},
		{"\x00", "\x00\x00"},
		{"\x01", "\x00\x01"},
		{"abc", "\x00abc"},
		{"abcabcabc", "\x01\x02abc\x83\x00\x02"},
		{"aaaaaa", "\x01\x00a\x82\x00\x00"},
		{strings.Repeat("\x00", 131), "\x01\x00\x00\xff\x00\x00"},
		{strings.Repeat("\x00", 1000), "\x01\x00\x00" + strings.Repeat("\xff\x00\x00", 7) + "\xd6\x00\x00"},
		{strings.Repeat("\xff", 1024), "\x01\x00\xff" + strings.Repeat("\xff\x00\x00", 7) + "\xee\x00\x00"},
	} {
		thereAndBack(t, []byte(c.b), []byte(c.want))
	}
	if p, e := pack.Pack(make([]byte, 1000)); e != api.OK || len(p) != 27 {
		t.Errorf("Pack of 1000 zero bytes has %d bytes, %d", len(p), e)
	}
}

// P13.1, R4: a block without bytes is packed alike, however none of them are given.
func TestNone(t *testing.T) {
	for _, b := range [][]byte{nil, {}, make([]byte, 0, 9), []byte("aaaaaa")[:0]} {
		thereAndBack(t, b, []byte{0})
	}
}

// P13.1: a block is compressed only if its encoding, without the byte before it, is shorter than the block.
func TestShorter(t *testing.T) {
	for _, c := range []struct {
		b    string
		less int
	}{
		{"", 0}, {"a", -1}, {"abcd", -1},
		{"aaaa", -1}, {"aaaaa", 0}, {"aaaaaa", 1}, {"aaaaaaa", 2},
		{"ababa", -1}, {"ababab", 0}, {"abababa", 1}, {"abababab", 2},
		{"abcabc", -1}, {"abcabca", 0}, {"abcabcab", 1}, {"abcabcabc", 2},
		{"aaaax", -2}, {"aaaaax", -1}, {"aaaaaax", 0}, {"aaaaaaax", 1},
	} {
		small := encoded(t, []byte(c.b))
		if less := len(c.b) - len(small); less != c.less {
			t.Fatalf("the encoding of %q has %d bytes less, not %d", c.b, less, c.less)
		}
		if c.less > 0 {
			thereAndBack(t, []byte(c.b), slices.Concat([]byte{1}, small))
		} else {
			thereAndBack(t, []byte(c.b), slices.Concat([]byte{0}, []byte(c.b)))
		}
	}
}

// P13.1: the same comparison with literals of any length before and behind a match of any length.
func TestShorterAnywhere(t *testing.T) {
	seen := map[int]bool{}
	for before := range 300 {
		for _, n := range []int{3, 4, 5, 6, 7, 8, 9, 10, 131} {
			text := distinct(before + 40)
			b := slices.Concat(text[:before], bytes.Repeat([]byte{'a'}, n), text[before:])
			agree(t, b)
			seen[len(b)-len(encoded(t, b))] = true
		}
	}
	for less := -4; less <= 2; less++ {
		if !seen[less] {
			t.Errorf("no encoding had %d bytes less than its block", less)
		}
	}
}

// P13.1, P13.2, P13.3: bytes without matches are stored, for each length up to the limit.
func TestStored(t *testing.T) {
	for n := range most + 1 {
		b := distinct(n)
		for _, x := range lz.Tokens(b) {
			if x.Len > 0 {
				t.Fatalf("%d bytes have a match", n)
			}
		}
		thereAndBack(t, b, slices.Concat([]byte{0}, b))
		agree(t, sample(int64(n), n))
	}
}

// P13.1, P13.2, P13.3: bytes with matches are compressed, for each length up to the limit.
func TestCompressed(t *testing.T) {
	for n := 6; n <= most; n++ {
		for _, c := range []byte{0, 1, 128, 255} {
			b := bytes.Repeat([]byte{c}, n)
			if packed(t, b)[0] != 1 {
				t.Fatalf("%d bytes %d are not compressed", n, c)
			}
			agree(t, b)
		}
		agree(t, few(int64(n), n, 2))
	}
}

// P13.1, R3: more bytes than the limit are refused, also if they would be short when they are compressed.
func TestOver(t *testing.T) {
	agree(t, make([]byte, most))
	agree(t, distinct(most))
	for _, n := range []int{1025, 1026, 1027, 1151, 1152, 1153, 2048, 4096, 65535, 65536, 65537, api.MaxBytes, api.MaxBytes + 1} {
		refused(t, make([]byte, n))
		refused(t, sample(int64(n), n))
		refused(t, few(int64(n), n, 3))
	}
	if api.MaxPlain != most {
		t.Errorf("MaxPlain is %d", api.MaxPlain)
	}
}

// P13.1, P13.2: all blocks of few bytes, and longer ones of two or three kinds of bytes.
func TestAllBlocks(t *testing.T) {
	agree(t, nil)
	for n := range 256 {
		agree(t, []byte{byte(n)})
	}
	for n := range 1 << 16 {
		agree(t, []byte{byte(n >> 8), byte(n)})
	}
	for _, c := range []struct{ kinds, longest int }{{2, 13}, {3, 9}} {
		count := 1
		for size := 1; size <= c.longest; size++ {
			count *= c.kinds
			b := make([]byte, size)
			for n := range count {
				for i := range b {
					b[i] = byte(n % c.kinds)
					n /= c.kinds
				}
				agree(t, b)
			}
		}
	}
}

// P13.1, P13.2, P13.3, P1: blocks by chance come back, and so often enough from both kinds.
func TestRandomBlocks(t *testing.T) {
	r := rand.New(rand.NewSource(1))
	counts := map[byte]int{}
	for seed := range int64(4000) {
		b := few(seed, r.Intn(most+1), 1+r.Intn(1+r.Intn(1+r.Intn(256))))
		agree(t, b)
		counts[packed(t, b)[0]]++
	}
	if counts[0] < 500 || counts[1] < 500 {
		t.Errorf("too few of a kind: %v", counts)
	}
}

// P13.2, R1: no bytes hold no block, not even an empty one.
func TestEmpty(t *testing.T) {
	for _, p := range [][]byte{nil, {}, make([]byte, 0, 9), []byte("\x00a")[:0], []byte("\x01\x00a")[:0]} {
		corrupt(t, p)
	}
}

// P13.2: the kind alone holds an empty block, also the kind that Pack does not give it.
func TestKindAlone(t *testing.T) {
	restores(t, []byte{0}, nil)
	restores(t, []byte{1}, nil)
	for kind := 2; kind < 256; kind++ {
		corrupt(t, []byte{byte(kind)})
	}
}

// P13.2, R3: a first byte that is neither 0 nor 1, before what could be a block in either way.
func TestKinds(t *testing.T) {
	for _, rest := range [][]byte{{0}, {1}, {0, 97}, {0, 97, 129, 0, 0}, {2, 97, 98, 99}, encoded(t, make([]byte, most)), distinct(most), distinct(most + 1)} {
		for kind := range 256 {
			p := slices.Concat([]byte{byte(kind)}, rest)
			decides(t, p)
			if kind > 1 {
				corrupt(t, p)
			}
		}
	}
}

// P13.2, P13.3: stored bytes are returned as they are, if they are no more than the limit.
func TestUnpackStored(t *testing.T) {
	for n := range most + 1 {
		b := sample(int64(n), n)
		restores(t, slices.Concat([]byte{0}, b), b)
		restores(t, make([]byte, n+1), make([]byte, n))
	}
	for _, n := range []int{1025, 1026, 1152, 1153, 2048, 2049, 65535, 65536, api.MaxBytes} {
		corrupt(t, make([]byte, n+1))
		corrupt(t, slices.Concat([]byte{0}, sample(int64(n), n)))
	}
	// Stored bytes have no meaning of their own.
	for _, rest := range []string{"\x00", "\x01", "\x01\x00a", "\x80", "\x80\x10\x00", "\x7fa"} {
		restores(t, []byte("\x00"+rest), []byte(rest))
	}
}

// P13.2: tokens that Pack would not use are expanded all the same.
func TestOtherTokens(t *testing.T) {
	for _, c := range []struct{ p, want string }{
		{"\x01\x00a", "a"},
		{"\x01\x02abc", "abc"},
		{"\x01\x00a\x00b\x00c", "abc"},
		{"\x01\x05aaaaaa", "aaaaaa"},
		{"\x01\x00a\x80\x00\x00", "aaaa"},
		{"\x01\x00a\x80\x00\x00\x80\x00\x00", "aaaaaaa"},
		{"\x01\x00a\x80\x00\x00\x80\x00\x03", "aaaaaaa"},
		{"\x01\x02abc\x80\x00\x02\x81\x00\x05", "abcabcabca"},
		{"\x01\x01ab\x83\x00\x01\x00x", "ababababx"},
	} {
		restores(t, []byte(c.p), []byte(c.want))
		if !decides(t, []byte(c.p)) {
			t.Fatalf("%q holds no block", c.p)
		}
	}
}

// joined returns the kind of compressed bytes, followed by tokens that are encoded.
func joined(tokens ...[]byte) []byte {
	return slices.Concat([]byte{1}, slices.Concat(tokens...))
}

// P13.2, R3: bytes that are no encoding, alone and behind one.
func TestNoEncoding(t *testing.T) {
	before := joined([]byte{2, 97, 98, 99}, []byte{200, 0, 1})
	for _, wrong := range [][]byte{
		{0}, {1}, {1, 97}, {2, 97, 98}, {127}, append([]byte{127}, make([]byte, 127)...),
		{128}, {128, 0}, {255}, {255, 0}, {128, 16, 0}, {128, 255, 255}, {255, 16, 0}, {128, 16, 0, 0, 97},
	} {
		corrupt(t, joined(wrong))
		corrupt(t, slices.Concat(before, wrong))
	}
}

// P13.2, R3: matches that go back to before the first byte; those that go back to it are right.
func TestTooFar(t *testing.T) {
	for n := range most - 2 {
		text := sample(int64(n), n)
		stored := []byte{}
		for from := 0; from < n; from += 128 {
			piece := text[from:min(n, from+128)]
			stored = slices.Concat(stored, []byte{byte(len(piece) - 1)}, piece)
		}
		restores(t, joined(stored), text)
		for dist := n + 1; dist <= n+3; dist++ {
			corrupt(t, joined(stored, []byte{128, byte((dist - 1) >> 8), byte(dist - 1)}))
		}
		corrupt(t, joined(stored, []byte{128, 15, 255}))
		if n >= 3 {
			restores(t, joined(stored, []byte{128, byte((n - 1) >> 8), byte(n - 1)}), slices.Concat(text, text[:3]))
		}
	}
	corrupt(t, []byte{1, 128, 0, 0, 0, 97})
}

// P13.2, P13.3, R3: tokens are expanded to 1024 bytes at most, however many they are.
func TestMost(t *testing.T) {
	whole := bytes.Repeat([]byte{0, 97}, most)
	restores(t, joined(whole), bytes.Repeat([]byte{'a'}, most))
	corrupt(t, joined(whole, []byte{0, 97}))
	corrupt(t, joined(whole, []byte{128, 0, 0}))
	corrupt(t, joined(bytes.Repeat([]byte{0, 97}, 100000)))
	corrupt(t, joined([]byte{0, 97}, bytes.Repeat([]byte{255, 0, 0}, 100000)))
	literals := bytes.Repeat(append([]byte{127}, make([]byte, 128)...), 8)
	restores(t, joined(literals), make([]byte, most))
	corrupt(t, joined(literals, []byte{0, 0}))
	corrupt(t, joined([]byte{0, 0}, literals))
	// Seven of the longest matches leave 113 bytes, so that the last token ends at the limit or goes beyond it.
	seven := slices.Concat([]byte{0, 97}, bytes.Repeat([]byte{255, 0, 0}, 7))
	for n := 3; n <= 130; n++ {
		p := joined(seven, []byte{byte(n + 125), 0, 0})
		if n <= 113 {
			restores(t, p, bytes.Repeat([]byte{'a'}, 911+n))
		} else {
			corrupt(t, p)
		}
	}
	for n := 1; n <= 128; n++ {
		p := joined(seven, []byte{byte(n - 1)}, bytes.Repeat([]byte{'a'}, n))
		if n <= 113 {
			restores(t, p, bytes.Repeat([]byte{'a'}, 911+n))
		} else {
			corrupt(t, p)
		}
	}
}

// P13.2: all bytes up to two, and all threes and fours that begin with one literal byte.
func TestAllPacked(t *testing.T) {
	decides(t, nil)
	for n := range 256 {
		decides(t, []byte{byte(n)})
	}
	for n := range 1 << 16 {
		decides(t, []byte{byte(n >> 8), byte(n)})
		decides(t, []byte{0, byte(n >> 8), byte(n)})
		decides(t, []byte{1, byte(n >> 8), byte(n)})
		decides(t, []byte{1, 0, 97, byte(n >> 8), byte(n)})
		decides(t, []byte{1, 0, 97, 128, byte(n >> 8), byte(n)})
		decides(t, []byte{1, 0, 97, byte(n >> 8), 0, byte(n)})
	}
}

// P13.2: packed bytes that are cut anywhere.
func TestCuts(t *testing.T) {
	for seed := range int64(40) {
		whole := packed(t, few(seed, 200, 2))
		for cut := range len(whole) + 1 {
			decides(t, whole[:cut])
			decides(t, bytes.Clone(whole[:cut:cut]))
		}
	}
}

// P13.2, P13.3: packed bytes with one byte changed hold another block, or none.
func TestChanges(t *testing.T) {
	for _, b := range [][]byte{[]byte("aaaaaa"), few(1, 60, 2), few(2, most, 1), few(3, most, 2), sample(4, 30)} {
		whole := packed(t, b)
		for i := range whole {
			for c := range 256 {
				p := bytes.Clone(whole)
				p[i] = byte(c)
				decides(t, p)
			}
		}
	}
}

// chance returns bytes that are often packed bytes: many are small, or heads of matches.
func chance(r *rand.Rand, n int) []byte {
	p := make([]byte, n)
	for i := range p {
		switch r.Intn(3) {
		case 0:
			p[i] = byte(r.Intn(2))
		case 1:
			p[i] = byte(r.Intn(6))
		default:
			p[i] = byte(128 + r.Intn(128))
		}
	}
	return p
}

// P13.2, P13.3: bytes by chance, so that both results come often behind both kinds.
func TestRandomBytes(t *testing.T) {
	r := rand.New(rand.NewSource(5))
	counts := map[bool]int{}
	for range 200000 {
		p := append([]byte{1}, chance(r, r.Intn(1+r.Intn(30)))...)
		counts[decides(t, p)]++
	}
	for range 2000 {
		decides(t, chance(r, r.Intn(3000)))
		decides(t, append([]byte{1}, chance(r, r.Intn(3000))...))
		decides(t, sample(r.Int63(), r.Intn(3000)))
	}
	if counts[true] < 10000 || counts[false] < 10000 {
		t.Errorf("too few of both: %v", counts)
	}
}

// P13.3: also what Pack returns is packed again with one more byte at most, until it is over the limit.
func TestAgain(t *testing.T) {
	for seed := range int64(5) {
		b := few(seed, 900, 1+int(seed)*60)
		for len(b) <= most {
			agree(t, b)
			p, _ := pack.Pack(b)
			if len(p) <= len(b) {
				b = sample(seed, len(b))
				continue
			}
			b = p
		}
		refused(t, b)
	}
}

// R4: the arguments stay as they are, and so does what lies behind them.
func TestArgumentsStay(t *testing.T) {
	for n := range 60 {
		text := few(int64(n), 200, 1+4*n)
		for _, memory := range [][]byte{
			text, slices.Concat([]byte{0}, text), slices.Concat([]byte{1}, text), slices.Concat(packed(t, text), text), make([]byte, most+n),
		} {
			before := bytes.Clone(memory)
			for cut := range min(len(memory), 250) {
				pack.Pack(memory[:cut])
				pack.Unpack(memory[:cut])
			}
			pack.Pack(memory)
			pack.Unpack(memory)
			if !bytes.Equal(memory, before) {
				t.Fatalf("%.60x (%d bytes) was changed", before, len(before))
			}
		}
	}
}

// fill writes into all the memory of b, its spare capacity too.
func fill(b []byte) {
	b = b[:cap(b)]
	for i := range b {
		b[i] = 0xee
	}
}

// isNew checks that the results of a call have memory of their own.
func isNew(t *testing.T, call func([]byte) ([]byte, api.Errno), argument, want []byte) {
	t.Helper()
	given := append(bytes.Clone(argument), "spare"...)[:len(argument)]
	first, _ := call(given)
	second, _ := call(given)
	fill(first)
	if !bytes.Equal(given, argument) || string(given[:len(given)+5][len(given):]) != "spare" {
		t.Fatalf("the result for %.60x shares its memory with the argument", argument)
	}
	if !bytes.Equal(second, want) {
		t.Fatalf("the results for %.60x share their memory", argument)
	}
	// The other way round: who changes the argument does not change the result.
	fill(given)
	if !bytes.Equal(second, want) {
		t.Fatalf("the result for %.60x shares its memory with the argument", argument)
	}
}

// R4: packed bytes and blocks have memory of their own, whether they are stored or compressed.
func TestResultsAreNew(t *testing.T) {
	for n := range 200 {
		for _, b := range [][]byte{sample(int64(n), n), few(int64(n), n, 2), make([]byte, n)} {
			isNew(t, pack.Pack, b, packed(t, b))
			isNew(t, pack.Unpack, packed(t, b), b)
			isNew(t, pack.Unpack, joined(encoded(t, b)), b)
		}
	}
	isNew(t, pack.Pack, distinct(most), append([]byte{0}, distinct(most)...))
	isNew(t, pack.Unpack, append([]byte{0}, distinct(most)...), distinct(most))
}

// R5: a result depends on its argument alone, not on the calls before or on what its array held before.
func TestCallsAreIndependent(t *testing.T) {
	b := few(6, 300, 3)
	for n := range 200 {
		pack.Pack(sample(int64(n), n))
		pack.Pack(make([]byte, 7*n))
		pack.Unpack(sample(int64(n), n))
		pack.Unpack([]byte{1, 0, 97, 128, 0, byte(n)})
		agree(t, b)
	}
	p := packed(t, b)
	copy(b, sample(7, 300))
	agree(t, b)
	decides(t, p)
	clear(p[1:])
	decides(t, p)
}
