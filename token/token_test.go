package token_test

import (
	"bytes"
	"fmt"
	"math"
	"math/rand"
	"slices"
	"testing"

	"garderobe/api"
	"garderobe/lz"
	"garderobe/token"
)

// The limits of chapter 11.
const (
	maxLit  = 128
	minLen  = 3
	maxLen  = 130
	maxDist = 4096
)

// sample returns n bytes that are the same in every run.
func sample(seed int64, n int) []byte {
	b := make([]byte, n)
	rand.New(rand.NewSource(seed)).Read(b)
	return b
}

func literal(s string) api.Token {
	return api.Token{Lit: []byte(s)}
}

func match(n, dist int) api.Token {
	return api.Token{Len: n, Dist: dist}
}

// anyToken returns a valid token, often one with few bytes or a small distance.
func anyToken(r *rand.Rand) api.Token {
	if r.Intn(2) == 0 {
		return api.Token{Lit: sample(r.Int63(), 1+r.Intn(1+r.Intn(maxLit)))}
	}
	return match(minLen+r.Intn(maxLen-minLen+1), 1+r.Intn(1+r.Intn(maxDist)))
}

// anyTokens returns valid tokens that are the same in every run.
func anyTokens(seed int64, n int) []api.Token {
	r := rand.New(rand.NewSource(seed))
	list := make([]api.Token, n)
	for i := range list {
		list[i] = anyToken(r)
	}
	return list
}

// brief returns tokens as a text that is cut if it is long.
func brief(list []api.Token) string {
	s := fmt.Sprintf("%d tokens %v", len(list), list)
	return s[:min(len(s), 300)]
}

func equal(a, b []api.Token) bool {
	return slices.EqualFunc(a, b, func(x, y api.Token) bool {
		return bytes.Equal(x.Lit, y.Lit) && x.Len == y.Len && x.Dist == y.Dist
	})
}

// copied returns tokens with memory of their own.
func copied(list []api.Token) []api.Token {
	out := slices.Clone(list)
	for i := range out {
		out[i].Lit = bytes.Clone(out[i].Lit)
	}
	return out
}

// encoded returns the encoding of tokens that are all valid, by the chapter's sentences.
func encoded(list []api.Token) []byte {
	var b []byte
	for _, x := range list {
		if len(x.Lit) > 0 {
			b = slices.Concat(b, []byte{byte(len(x.Lit) - 1)}, x.Lit)
		} else {
			b = append(b, byte(x.Len+125), byte((x.Dist-1)/256), byte((x.Dist-1)%256))
		}
	}
	return b
}

// accepted tells whether b is the encoding of tokens, without looking at what these are.
func accepted(b []byte) bool {
	at := 0
	for at < len(b) {
		switch {
		case b[at] < 128:
			at += int(b[at]) + 2
		case at+2 >= len(b) || b[at+1] >= 16:
			return false
		default:
			at += 3
		}
	}
	return at == len(b)
}

// thereAndBack checks that tokens become those bytes, and these become the tokens again.
func thereAndBack(t *testing.T, list []api.Token, want []byte) {
	t.Helper()
	if b, e := token.Encode(list); e != api.OK || !bytes.Equal(b, want) {
		t.Fatalf("Encode(%s) = %.60x (%d bytes), %d, want %.60x (%d bytes)", brief(list), b, len(b), e, want, len(want))
	}
	if back, e := token.Decode(want); e != api.OK || !equal(back, list) {
		t.Fatalf("Decode(%.60x) (%d bytes) = %s, %d, want %s", want, len(want), brief(back), e, brief(list))
	}
}

// agree checks tokens against the chapter's sentences.
func agree(t *testing.T, list []api.Token) {
	t.Helper()
	thereAndBack(t, list, encoded(list))
}

// refused checks that tokens are not encoded, and that no bytes are returned.
func refused(t *testing.T, list []api.Token) {
	t.Helper()
	if b, e := token.Encode(list); e != api.ErrForm || len(b) != 0 {
		t.Fatalf("Encode(%s) = %.60x (%d bytes), %d", brief(list), b, len(b), e)
	}
}

// corrupt checks that bytes are not decoded, and that no tokens are returned.
func corrupt(t *testing.T, b []byte) {
	t.Helper()
	if list, e := token.Decode(b); e != api.ErrCorrupt || len(list) != 0 {
		t.Fatalf("Decode(%.60x) (%d bytes) = %s, %d", b, len(b), brief(list), e)
	}
}

// decides checks that bytes are decoded if and only if they are an encoding, and then to the tokens that have it.
func decides(t *testing.T, b []byte) bool {
	t.Helper()
	if !accepted(b) {
		corrupt(t, b)
		return false
	}
	list, e := token.Decode(b)
	if e != api.OK || slices.ContainsFunc(list, func(x api.Token) bool { return !lz.Good(x) }) {
		t.Fatalf("Decode(%.60x) (%d bytes) = %s, %d", b, len(b), brief(list), e)
	}
	thereAndBack(t, list, b)
	return true
}

// P12.1, P12.2: encodings that were worked out by hand, the chapter's example among them.
func TestKnown(t *testing.T) {
	for _, c := range []struct {
		list []api.Token
		want []byte
	}{
		{nil, nil},
		{[]api.Token{literal("a")}, []byte{0, 97}},
		{[]api.Token{literal("a"), match(4, 1)}, []byte{0, 97, 129, 0, 0}},
		{[]api.Token{literal("abc")}, []byte{2, 97, 98, 99}},
		{[]api.Token{literal("a"), literal("b")}, []byte{0, 97, 0, 98}},
		{[]api.Token{match(3, 1)}, []byte{128, 0, 0}},
		{[]api.Token{match(3, 2)}, []byte{128, 0, 1}},
		{[]api.Token{match(130, 1)}, []byte{255, 0, 0}},
		{[]api.Token{match(3, 256)}, []byte{128, 0, 255}},
		{[]api.Token{match(3, 257)}, []byte{128, 1, 0}},
		{[]api.Token{match(100, 3000)}, []byte{225, 11, 183}},
		{[]api.Token{match(130, 4096)}, []byte{255, 15, 255}},
		{[]api.Token{match(3, 4096), match(130, 1), literal("\x00\x80\xff")}, []byte{128, 15, 255, 255, 0, 0, 2, 0, 128, 255}},
	} {
		thereAndBack(t, c.list, c.want)
	}
}

// P12.1, P12.2, R4: no tokens are no bytes, however none of them are given.
func TestNone(t *testing.T) {
	for _, list := range [][]api.Token{nil, {}, make([]api.Token, 0, 9)} {
		if b, e := token.Encode(list); e != api.OK || len(b) != 0 {
			t.Errorf("Encode of no tokens is %x, %d", b, e)
		}
	}
	for _, b := range [][]byte{nil, {}, make([]byte, 0, 9), []byte{128, 0, 0}[:0]} {
		if list, e := token.Decode(b); e != api.OK || len(list) != 0 {
			t.Errorf("Decode of no bytes is %v, %d", list, e)
		}
	}
}

// P12.1, P12.2: each length of a literal, with bytes of all kinds, those that are heads of encodings among them.
func TestLiterals(t *testing.T) {
	for n := 1; n <= maxLit; n++ {
		for c := range 256 {
			b := bytes.Repeat([]byte{byte(c)}, n)
			thereAndBack(t, []api.Token{{Lit: b}}, append([]byte{byte(n - 1)}, b...))
		}
		agree(t, []api.Token{{Lit: sample(int64(n), n)}, {Lit: sample(int64(n)+1000, n)}})
	}
}

// P12.1, P12.2: each match there is.
func TestMatches(t *testing.T) {
	for n := minLen; n <= maxLen; n++ {
		for dist := 1; dist <= maxDist; dist++ {
			agree(t, []api.Token{match(n, dist)})
		}
	}
}

// P12.1, P12.2: a literal without bytes is nil or empty; that of a match may have spare capacity.
func TestEmptyLit(t *testing.T) {
	for _, lit := range [][]byte{nil, {}, make([]byte, 0, 9)} {
		thereAndBack(t, []api.Token{{Lit: lit, Len: 3, Dist: 1}}, []byte{128, 0, 0})
		refused(t, []api.Token{{Lit: lit}})
	}
}

// P12.2: a match has no Lit, and a literal neither Len nor Dist.
func TestZeroFields(t *testing.T) {
	list, e := token.Decode([]byte{0, 97, 129, 0, 0, 1, 98, 99})
	if e != api.OK || len(list) != 3 {
		t.Fatal(list, e)
	}
	if len(list[1].Lit) != 0 || list[0].Len != 0 || list[0].Dist != 0 || list[2].Len != 0 || list[2].Dist != 0 {
		t.Error(list)
	}
}

// P12.1, P12.2: lists of every length; literals stay apart, also if they would have room in one.
func TestLists(t *testing.T) {
	for n := range 400 {
		agree(t, anyTokens(int64(n), n))
		agree(t, slices.Repeat([]api.Token{literal("x")}, n))
		agree(t, slices.Repeat([]api.Token{match(3, 1)}, n))
		agree(t, slices.Repeat([]api.Token{{Lit: make([]byte, maxLit)}}, n))
	}
}

// P12.1, P12.2: whether something lies where a match goes back to is not asked here.
func TestFarMatches(t *testing.T) {
	list := []api.Token{match(3, 4096), literal("a"), match(130, 4096)}
	if _, e := lz.Expand(list, math.MaxInt); e != api.ErrCorrupt {
		t.Fatalf("Expand returns %d", e)
	}
	agree(t, list)
}

// invalid returns tokens that are not valid, for all reasons there are.
func invalid() []api.Token {
	list := []api.Token{
		{}, {Lit: []byte("a"), Len: 3, Dist: 1}, {Lit: []byte("a"), Len: 3}, {Lit: []byte("a"), Dist: 1},
		{Lit: []byte("a"), Len: -1}, {Lit: []byte("a"), Dist: -1}, {Lit: []byte("a"), Len: 256}, {Lit: []byte("a"), Dist: 65536},
	}
	for _, n := range []int{129, 130, 255, 256, 257, 384, 65536, 65537} {
		list = append(list, api.Token{Lit: make([]byte, n)})
	}
	for _, n := range []int{
		math.MinInt, math.MinInt + 3, -256, -253, -126, -125, -3, -1, 0, 1, 2, 131, 132, 255, 256, 259, 386, 65539, 1<<32 + 3, math.MaxInt,
	} {
		list = append(list, match(n, 1), match(n, 4096), match(n, 4097))
	}
	for _, dist := range []int{
		math.MinInt, math.MinInt + 1, -65535, -4096, -255, -1, 0, 4097, 4098, 8192, 65535, 65536, 65537, 1<<32 + 1, math.MaxInt,
	} {
		list = append(list, match(3, dist), match(130, dist))
	}
	return list
}

// P12.1, R1, R3: a token that is not valid, with others before and behind it.
func TestInvalidTokens(t *testing.T) {
	for _, x := range invalid() {
		if lz.Good(x) {
			t.Fatalf("%d bytes, Len %d, Dist %d are valid", len(x.Lit), x.Len, x.Dist)
		}
		refused(t, []api.Token{x})
		refused(t, []api.Token{literal("a"), x})
		refused(t, []api.Token{x, literal("a")})
		refused(t, []api.Token{match(3, 1), x, match(3, 1)})
		refused(t, []api.Token{x, x})
		list := anyTokens(1, 20)
		for i := range len(list) + 1 {
			refused(t, slices.Insert(slices.Clone(list), i, x))
		}
	}
}

// P12.1: what Encode accepts is what chapter 11 says is valid, for all lengths and numbers around the limits.
func TestAcceptedTokens(t *testing.T) {
	numbers := []int{-130, -1, 0, 1, 2, 3, 4, 129, 130, 131, 255, 256, 4095, 4096, 4097, 65536}
	for size := range 140 {
		for _, n := range numbers {
			for _, dist := range numbers {
				isLiteral := size >= 1 && size <= 128 && n == 0 && dist == 0
				isMatch := size == 0 && n >= 3 && n <= 130 && dist >= 1 && dist <= 4096
				list := []api.Token{{Lit: make([]byte, size), Len: n, Dist: dist}}
				if isLiteral || isMatch {
					agree(t, list)
				} else {
					refused(t, list)
				}
			}
		}
	}
}

// P12.2: all bytes up to two, and all threes with heads at the limits.
func TestAllShort(t *testing.T) {
	decides(t, nil)
	for c := range 256 {
		corrupt(t, []byte{byte(c)})
		for d := range 256 {
			decides(t, []byte{byte(c), byte(d)})
		}
	}
	for _, head := range []byte{0, 1, 2, 3, 126, 127, 128, 129, 254, 255} {
		for n := range 1 << 16 {
			decides(t, []byte{head, byte(n >> 8), byte(n)})
		}
	}
}

// P12.2: every distance that two bytes can hold, of which only the first 4096 are those of a match.
func TestDistances(t *testing.T) {
	for head := 128; head < 256; head++ {
		for n := range 1 << 16 {
			b := []byte{byte(head), byte(n >> 8), byte(n)}
			list, e := token.Decode(b)
			if n >= maxDist {
				if e != api.ErrCorrupt || len(list) != 0 {
					t.Fatalf("Decode(%x) = %v, %d", b, list, e)
				}
				continue
			}
			if e != api.OK || !equal(list, []api.Token{match(head-125, n+1)}) {
				t.Fatalf("Decode(%x) = %v, %d", b, list, e)
			}
		}
	}
}

// P12.2: a literal with every other number of bytes than its head says.
func TestLiteralLengths(t *testing.T) {
	// The bytes are heads of matches too far back, so that none that are too many are an encoding.
	text := bytes.Repeat([]byte{255}, 200)
	for head := range 128 {
		for n := range 150 {
			b := append([]byte{byte(head)}, text[:n]...)
			if n == head+1 {
				thereAndBack(t, []api.Token{{Lit: text[:n]}}, b)
			} else {
				corrupt(t, b)
			}
		}
	}
}

// P12.2: bytes that are cut anywhere are decoded only where an encoding ends.
func TestCuts(t *testing.T) {
	for seed := range int64(20) {
		list := anyTokens(seed, 20)
		whole := encoded(list)
		ends := map[int]int{0: 0}
		for i := range list {
			ends[len(encoded(list[:i+1]))] = i + 1
		}
		for cut := range len(whole) + 1 {
			for _, b := range [][]byte{whole[:cut], bytes.Clone(whole[:cut:cut])} {
				if n, ok := ends[cut]; ok {
					thereAndBack(t, list[:n], b)
				} else {
					corrupt(t, b)
				}
			}
		}
	}
}

// P12.2, R3: what is wrong at the end leaves nothing of the tokens before it.
func TestCorruptAnywhere(t *testing.T) {
	list := anyTokens(2, 30)
	for i := range len(list) + 1 {
		before, behind := encoded(list[:i]), encoded(list[i:])
		for _, wrong := range [][]byte{{128, 16, 0}, {255, 16, 0}, {128, 255, 255}, {200, 128, 0}, {129, 17, 1}} {
			corrupt(t, slices.Concat(before, wrong))
			corrupt(t, slices.Concat(before, wrong, behind))
		}
		for _, wrong := range [][]byte{{0}, {1, 97}, {127, 0, 0}, {128}, {128, 0}, {255, 15}, {255, 16}} {
			corrupt(t, slices.Concat(before, wrong))
		}
		decides(t, slices.Concat(before, []byte{0}, behind))
		decides(t, slices.Concat(before, []byte{128}, behind))
	}
}

// P12.2: bytes by chance, most of which are heads or small, so that both results come often.
func TestRandomBytes(t *testing.T) {
	r := rand.New(rand.NewSource(3))
	counts := map[bool]int{}
	for range 200000 {
		b := make([]byte, r.Intn(1+r.Intn(30)))
		for i := range b {
			switch r.Intn(3) {
			case 0:
				b[i] = byte(r.Intn(18))
			case 1:
				b[i] = byte(r.Intn(4))
			default:
				b[i] = byte(128 + r.Intn(128))
			}
		}
		counts[decides(t, b)]++
	}
	for seed := range int64(2000) {
		counts[decides(t, sample(seed, r.Intn(3000)))]++
	}
	if counts[true] < 10000 || counts[false] < 10000 {
		t.Errorf("too few of both: %v", counts)
	}
}

// P12.1, P12.2: encodings with one byte changed are others, or none.
func TestChanges(t *testing.T) {
	whole := encoded(anyTokens(4, 12))
	for i := range whole {
		for c := range 256 {
			b := bytes.Clone(whole)
			b[i] = byte(c)
			decides(t, b)
		}
	}
}

// P1: texts come back through tokens and their encoding.
func TestTexts(t *testing.T) {
	r := rand.New(rand.NewSource(5))
	texts := [][]byte{nil, []byte("aaaaa"), make([]byte, 1000), make([]byte, api.MaxBytes), sample(6, api.MaxBytes)}
	for range 500 {
		b := make([]byte, r.Intn(2*api.MaxPlain))
		kinds := 1 + r.Intn(1+r.Intn(256))
		for i := range b {
			b[i] = byte(r.Intn(kinds))
		}
		texts = append(texts, b)
	}
	for _, text := range texts {
		list := lz.Tokens(text)
		agree(t, list)
		b, _ := token.Encode(list)
		back, _ := token.Decode(b)
		if out, e := lz.Expand(back, len(text)); e != api.OK || !bytes.Equal(out, text) {
			t.Fatalf("%.40x (%d bytes) comes back as %.40x (%d bytes), %d", text, len(text), out, len(out), e)
		}
	}
}

// R4: the arguments stay as they are, and so does what lies behind them.
func TestArgumentsStay(t *testing.T) {
	for n := range 60 {
		list := append(anyTokens(int64(n), n), literal("behind"), match(5, 6), api.Token{})
		// The literals, too, have spare capacity that belongs to the caller.
		for i := range list {
			list[i].Lit = append(list[i].Lit, "spare"...)[:len(list[i].Lit)]
		}
		kept := copied(list)
		token.Encode(list[:n])
		token.Encode(list[:n+2])
		token.Encode(list)
		if !equal(list, kept) {
			t.Fatalf("%d tokens: Encode changed its argument", n)
		}
		for i, x := range list {
			if s := x.Lit[len(x.Lit) : len(x.Lit)+5]; string(s) != "spare" {
				t.Fatalf("%d tokens: what lies behind literal %d is %q", n, i, s)
			}
		}
		memory := append(encoded(anyTokens(int64(n), n)), sample(7, 50)...)
		before := bytes.Clone(memory)
		for cut := range memory {
			token.Decode(memory[:cut])
		}
		if !bytes.Equal(memory, before) {
			t.Fatalf("%d tokens: Decode changed its argument", n)
		}
	}
}

// fill writes into all the memory of b, its spare capacity too.
func fill(b []byte) {
	b = b[:cap(b)]
	for i := range b {
		b[i] = 0xee
	}
}

// R4: encodings have memory of their own, also if they are those of one literal.
func TestBytesAreNew(t *testing.T) {
	for n := range 30 {
		list := anyTokens(int64(n), n)
		kept, want := copied(list), encoded(list)
		first, _ := token.Encode(list)
		second, _ := token.Encode(list)
		fill(first)
		if !bytes.Equal(second, want) || !equal(list, kept) {
			t.Fatalf("%s: a result of Encode shares its memory", brief(kept))
		}
		for _, x := range list {
			fill(x.Lit)
		}
		clear(list)
		if !bytes.Equal(second, want) {
			t.Fatalf("%s: a result of Encode shares its memory with the argument", brief(kept))
		}
	}
}

// R4: each literal of a result has memory of its own, and so has the list.
func TestTokensAreNew(t *testing.T) {
	for n := range 30 {
		want := anyTokens(int64(n), n)
		b := encoded(want)
		first, _ := token.Decode(b)
		second, _ := token.Decode(b)
		for i := range want {
			filled, _ := token.Decode(b)
			fill(filled[i].Lit)
			for k := range want {
				if k != i && !bytes.Equal(filled[k].Lit, want[k].Lit) {
					t.Fatalf("literals %d and %d share memory", i, k)
				}
			}
			fill(first[i].Lit)
		}
		clear(first[:cap(first)])
		if !bytes.Equal(b, encoded(want)) || !equal(second, want) {
			t.Fatal("a result of Decode shares its memory")
		}
		// The other way round: who changes the bytes does not change the tokens.
		fill(b)
		if !equal(second, want) {
			t.Fatal("a result of Decode shares its memory with the argument")
		}
	}
}

// R5: a result depends on its arguments alone, not on the calls before or on what their arrays held before.
func TestCallsAreIndependent(t *testing.T) {
	list := anyTokens(8, 40)
	for n := range 200 {
		token.Encode(anyTokens(int64(n), n))
		token.Encode([]api.Token{literal("abc"), match(3, n), {}})
		token.Decode(sample(int64(n), n))
		token.Decode([]byte{0, 97, 128, byte(n)})
		agree(t, list)
	}
	b := encoded(list)
	copy(list, anyTokens(9, 40))
	agree(t, list)
	decides(t, b)
	clear(b)
	decides(t, b)
}
