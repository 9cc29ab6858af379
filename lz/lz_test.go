package lz_test

import (
	"bytes"
	"fmt"
	"math"
	"math/rand"
	"slices"
	"testing"

	"garderobe/api"
	"garderobe/lz"
)

// The limits of the chapter.
const (
	maxLit  = 128
	minLen  = 3
	maxLen  = 130
	maxDist = 4096
)

// sample returns n bytes that are the same in every run.
func sample(seed int64, n int) []byte {
	b := make([]byte, n)
	rand.New(rand.NewSource(seed)).Read(b)
	return b
}

// few returns n bytes of only so many kinds, so that they are full of matches.
func few(seed int64, n, kinds int) []byte {
	r := rand.New(rand.NewSource(seed))
	b := make([]byte, n)
	for i := range b {
		b[i] = byte(r.Intn(kinds))
	}
	return b
}

// distinct returns n bytes without any match: the places of the last bytes of a three tell them from all others.
func distinct(n int) []byte {
	var b []byte
	for i := 0; len(b) < n; i++ {
		b = append(b, byte(i>>7), byte(i)|128, 0)
	}
	return b[:n]
}

// joined returns the concatenation of texts.
func joined(texts ...string) []byte {
	var b []byte
	for _, s := range texts {
		b = append(b, s...)
	}
	return b
}

func literal(s string) api.Token {
	return api.Token{Lit: []byte(s)}
}

func match(n, dist int) api.Token {
	return api.Token{Len: n, Dist: dist}
}

// brief returns tokens as a text that is cut if it is long.
func brief(list []api.Token) string {
	s := fmt.Sprintf("%d tokens %v", len(list), list)
	return s[:min(len(s), 300)]
}

func equal(a, b []api.Token) bool {
	return slices.EqualFunc(a, b, func(x, y api.Token) bool {
		return bytes.Equal(x.Lit, y.Lit) && x.Len == y.Len && x.Dist == y.Dist
	})
}

// copied returns tokens with memory of their own.
func copied(list []api.Token) []api.Token {
	out := slices.Clone(list)
	for i := range out {
		out[i].Lit = bytes.Clone(out[i].Lit)
	}
	return out
}

// lengthAt returns how many bytes a match of that distance would represent at a position, from 0 on.
func lengthAt(b []byte, at, dist int) int {
	n := 0
	for at+n < len(b) && n < maxLen && b[at+n] == b[at+n-dist] {
		n++
	}
	return n
}

// searched returns the tokens of b as the chapter says them, with every distance tried.
func searched(b []byte) []api.Token {
	var out []api.Token
	for at := 0; at < len(b); {
		var best api.Token
		for dist := 1; dist <= maxDist && dist <= at; dist++ {
			if n := lengthAt(b, at, dist); n >= minLen && n > best.Len {
				best = match(n, dist)
			}
		}
		last := len(out) - 1
		switch {
		case best.Len > 0:
			out = append(out, best)
			at += best.Len
			continue
		case last >= 0 && out[last].Len == 0 && len(out[last].Lit) < maxLit:
			out[last].Lit = append(out[last].Lit, b[at])
		default:
			out = append(out, api.Token{Lit: []byte{b[at]}})
		}
		at++
	}
	return out
}

// expanded returns the bytes of tokens that are all valid and reach no farther back than there is something.
func expanded(list []api.Token) []byte {
	var b []byte
	for _, t := range list {
		b = append(b, t.Lit...)
		for range t.Len {
			b = append(b, b[len(b)-t.Dist])
		}
	}
	return b
}

// are checks that the tokens of b are want, and that they are b again.
func are(t *testing.T, b []byte, want ...api.Token) {
	t.Helper()
	if list := lz.Tokens(b); !equal(list, want) {
		t.Fatalf("Tokens(%.60q) (%d bytes) = %s, want %s", b, len(b), brief(list), brief(want))
	}
	restored(t, b)
}

// restored checks that the tokens of b are valid, and are expanded to b if and only if so many bytes are allowed.
func restored(t *testing.T, b []byte) {
	t.Helper()
	list := lz.Tokens(b)
	for i, x := range list {
		if !lz.Good(x) {
			t.Fatalf("token %d of %.60q is %v", i, b, x)
		}
	}
	for _, most := range []int{len(b), len(b) + 1, math.MaxInt} {
		expands(t, list, most, b)
	}
	if len(b) > 0 {
		refused(t, list, len(b)-1, api.ErrOver)
	}
}

// agree checks the tokens of b against those that are found when every distance is tried.
func agree(t *testing.T, b []byte) {
	t.Helper()
	are(t, b, searched(b)...)
}

func expands(t *testing.T, list []api.Token, most int, want []byte) {
	t.Helper()
	if b, e := lz.Expand(list, most); e != api.OK || !bytes.Equal(b, want) {
		t.Fatalf("Expand(%s, %d) = %.60q (%d bytes), %d, want %.60q (%d bytes)", brief(list), most, b, len(b), e, want, len(want))
	}
}

// refused checks that tokens are refused with that error, and nothing beside it.
func refused(t *testing.T, list []api.Token, most int, want api.Errno) {
	t.Helper()
	if b, e := lz.Expand(list, most); e != want || len(b) != 0 {
		t.Fatalf("Expand(%s, %d) = %.60q, %d, want error %d", brief(list), most, b, e, want)
	}
}

// P11.1: tokens that were worked out by hand, the chapter's example among them.
func TestKnownTokens(t *testing.T) {
	for _, c := range []struct {
		text string
		want []api.Token
	}{
		{"", nil},
		{"a", []api.Token{literal("a")}},
		{"ab", []api.Token{literal("ab")}},
		{"aa", []api.Token{literal("aa")}},
		{"aaa", []api.Token{literal("aaa")}},
		{"aaaa", []api.Token{literal("a"), match(3, 1)}},
		{"aaaaa", []api.Token{literal("a"), match(4, 1)}},
		{"abab", []api.Token{literal("abab")}},
		{"ababa", []api.Token{literal("ab"), match(3, 2)}},
		{"abcabc", []api.Token{literal("abc"), match(3, 3)}},
		{"abcab", []api.Token{literal("abcab")}},
		{"abcabcabcab", []api.Token{literal("abc"), match(8, 3)}},
		{"aaaabaaaab", []api.Token{literal("a"), match(3, 1), literal("b"), match(5, 5)}},
		{"the cat, the hat", []api.Token{literal("the cat, "), match(4, 9), literal("hat")}},
	} {
		are(t, []byte(c.text), c.want...)
	}
	are(t, nil)
	are(t, make([]byte, 0, 9))
}

// P11.1: of several matches the longest, however far back.
func TestLongest(t *testing.T) {
	are(t, []byte("abcdeXabcdYabcZabcde"), literal("abcdeX"), match(4, 6), literal("Y"), match(3, 5), literal("Z"), match(5, 15))
	are(t, []byte("abcXabcdeYabcdZabcde"), literal("abcX"), match(3, 4), literal("deY"), match(4, 6), literal("Z"), match(5, 11))
	are(t, []byte("abcXabcdYabcdeZabcde"), literal("abcX"), match(3, 4), literal("dY"), match(4, 5), literal("eZ"), match(5, 6))
}

// P11.1: of several matches that are equally long the one with the smallest distance.
func TestNearest(t *testing.T) {
	are(t, []byte("abcUabcVabcWabc"), literal("abcU"), match(3, 4), literal("V"), match(3, 4), literal("W"), match(3, 4))
	are(t, []byte("abcdUabcVabcdWabcVXabcd"),
		literal("abcdU"), match(3, 5), literal("V"), match(4, 9), literal("W"), match(4, 9), literal("X"), match(4, 10))
	// All lengths are cut to that of the rest of the text, so that here, too, the nearest counts.
	are(t, []byte("abcdeUabcdVabc"), literal("abcdeU"), match(4, 6), literal("V"), match(3, 5))
}

// P11.1: all matches are 130 bytes long at most, and then the nearest one counts.
func TestNearestOfLongest(t *testing.T) {
	long := string(distinct(140))
	b := joined(long, "\x01\x01U", long, "\x01\x01V", long)
	list := lz.Tokens(b)
	if n := len(list); n < 2 || list[n-2].Len != maxLen || list[n-2].Dist != 143 {
		t.Errorf("tokens are %s", brief(list))
	}
	agree(t, b)
}

// P11.1: a match is of 3 bytes at least.
func TestShortestMatch(t *testing.T) {
	are(t, []byte("abXabYabZ"), literal("abXabYabZ"))
	are(t, []byte("abcXabcYab"), literal("abcX"), match(3, 4), literal("Yab"))
	are(t, []byte("xyzxyzxy"), literal("xyz"), match(5, 3))
}

// P11.1: a run is a literal and matches of 130 bytes; what is left may be too short for a match.
func TestRuns(t *testing.T) {
	for n := range 600 {
		b := bytes.Repeat([]byte{'r'}, n)
		agree(t, b)
		if n < 4 {
			continue
		}
		want := []api.Token{literal("r")}
		rest := n - 1
		for ; rest >= minLen; rest -= min(rest, maxLen) {
			want = append(want, match(min(rest, maxLen), 1))
		}
		if rest > 0 {
			want = append(want, literal("rr"[:rest]))
		}
		are(t, b, want...)
	}
}

// P11.1: repetitions that are as long as a match may be, nearly so, or longer.
func TestLongestMatch(t *testing.T) {
	for _, n := range []int{127, 128, 129, 130, 131, 132, 133, 134, 259, 260, 261, 262, 263} {
		b := joined(string(distinct(n)), "\x01\x02\x03", string(distinct(n)), "\xfe\xfd")
		agree(t, b)
		list := lz.Tokens(b)
		i := slices.IndexFunc(list, func(x api.Token) bool { return x.Len > 0 })
		if i < 0 || list[i].Len != min(n, maxLen) || list[i].Dist != n+3 {
			t.Errorf("%d bytes: tokens are %s", n, brief(list))
		}
	}
}

// P11.1: what comes again after so many bytes is a match if these are 4096 at most.
func TestFarthest(t *testing.T) {
	gap := string(bytes.Repeat([]byte{'.'}, maxDist+100))
	for _, again := range []string{"xyz", "xyzt"} {
		for dist := maxDist - 100; dist <= maxDist+100; dist++ {
			b := joined(again, gap[:dist-len(again)], again)
			list := lz.Tokens(b)
			last := list[len(list)-1]
			if found := last.Len == len(again) && last.Dist == dist; found != (dist <= maxDist) {
				t.Fatalf("%q again after %d bytes: the last token is %v", again, dist, last)
			}
			restored(t, b)
		}
	}
	agree(t, joined("xyz", gap[:maxDist-3], "xyz"))
	agree(t, joined("xyz", gap[:maxDist-2], "xyz"))
	agree(t, joined("xyzt", gap[:maxDist-4], "xyzt", gap[:maxDist-4], "xyzt"))
}

// P11.1: of the same bytes at many positions those within reach count, and only them.
func TestReach(t *testing.T) {
	gap := string(bytes.Repeat([]byte{'.'}, maxDist))
	for _, cut := range []int{3, 4, 5, 6, 7, 8, 9, 10, 11, 12} {
		// The longer one is in reach or just beyond it, with a shorter one always nearer.
		agree(t, joined("abcd", gap[cut+4:], "abc", "-", "abcd"))
		agree(t, joined("abcdabce", gap[cut+8:], "abcf", "-", "abcd", "-", "abce"))
	}
}

// P11.1: a literal has 128 bytes at most; the next byte begins another one.
func TestLiterals(t *testing.T) {
	for n := range 700 {
		b := distinct(n)
		var want []api.Token
		for piece := range slices.Chunk(b, maxLit) {
			want = append(want, literal(string(piece)))
		}
		are(t, b, want...)
	}
}

// P11.1: a match ends a literal, also one with room, and the count of its bytes.
func TestLiteralAfterMatch(t *testing.T) {
	for _, n := range []int{1, 2, 100, 127, 128, 129, 200} {
		head, tail := "abc"+string(distinct(n)), string(bytes.Repeat([]byte{1}, 2))
		agree(t, joined(head, "abc", tail, "xyzuvw"))
		agree(t, joined(head, "abc", string(sample(int64(n), n))))
	}
	are(t, []byte("abcXabcYZ"), literal("abcX"), match(3, 4), literal("YZ"))
	are(t, []byte("abcXabcaaaabY"), literal("abcX"), match(3, 4), literal("a"), match(3, 1), literal("bY"))
}

// P11.1: positions within a match are positions to go back to.
func TestWithinMatches(t *testing.T) {
	are(t, []byte("abcdefXabcdefYcdeZ"), literal("abcdefX"), match(6, 7), literal("Y"), match(3, 5), literal("Z"))
	are(t, []byte("abababababXbabab"), literal("ab"), match(8, 2), literal("X"), match(5, 6))
	// A match may begin in the last byte of another one, and go on into itself.
	are(t, []byte("abcdXabcdYdYdYd"), literal("abcdX"), match(4, 5), literal("Y"), match(5, 2))
}

// P11.1: every text of few letters up to some length.
func TestAllShort(t *testing.T) {
	for _, c := range []struct{ kinds, most int }{{1, 20}, {2, 12}, {3, 8}, {4, 6}} {
		for n := range c.most + 1 {
			b := make([]byte, n)
			for {
				agree(t, b)
				i := 0
				for ; i < n && int(b[i]) == c.kinds-1; i++ {
					b[i] = 0
				}
				if i == n {
					break
				}
				b[i]++
			}
		}
	}
}

// P11.1, P11.2, P1: texts of all kinds, with few and with many matches.
func TestRandomTokens(t *testing.T) {
	r := rand.New(rand.NewSource(1))
	for range 2000 {
		agree(t, few(r.Int63(), r.Intn(400), 1+r.Intn(1+r.Intn(256))))
	}
	for _, kinds := range []int{2, 3, 5, 16, 256} {
		agree(t, few(r.Int63(), 12000, kinds))
	}
}

// P11.1, P1: texts whose pieces come again, near and far, with changes.
func TestPieces(t *testing.T) {
	r := rand.New(rand.NewSource(2))
	for range 60 {
		b := few(r.Int63(), 1+r.Intn(300), 256)
		for len(b) < 9000 {
			from := max(0, len(b)-1-r.Intn(5000))
			piece := bytes.Clone(b[from:min(len(b), from+1+r.Intn(300))])
			if r.Intn(2) == 0 {
				piece[r.Intn(len(piece))]++
			}
			b = append(b, piece...)
		}
		agree(t, b)
	}
}

// P11.1, P1: texts that are much longer than matches reach.
func TestLongTexts(t *testing.T) {
	for _, b := range [][]byte{
		make([]byte, api.MaxBytes),
		sample(3, api.MaxBytes),
		few(4, api.MaxBytes, 2),
		few(5, api.MaxBytes, 7),
		bytes.Repeat(sample(6, maxDist), 64),
		bytes.Repeat(sample(7, maxDist+1), 64),
	} {
		restored(t, b)
	}
}

// P11.1: what comes again and again is found if and only if it is within reach.
func TestPeriods(t *testing.T) {
	for _, period := range []int{1, 2, 3, 5, 129, 130, 131, 4000, 4095, 4096} {
		b := bytes.Repeat(sample(8, period), 3+1000/period)
		for i, x := range lz.Tokens(b) {
			if x.Len > 0 && x.Dist > period {
				t.Fatalf("period %d: token %d is %v", period, i, x)
			}
		}
		size := 0
		for _, x := range lz.Tokens(b) {
			size += len(x.Lit)
		}
		if size > period+2 {
			t.Errorf("period %d: %d bytes are in literals", period, size)
		}
		restored(t, b)
	}
	agree(t, bytes.Repeat(sample(9, 4096), 2))
	agree(t, bytes.Repeat(sample(9, 4097), 2))
}

// P11.2: each length of a literal, with each Len and Dist of some.
func TestGood(t *testing.T) {
	numbers := []int{
		math.MinInt, math.MinInt + 1, -4096, -130, -3, -1, 0, 1, 2, 3, 4, 64, 127, 128, 129, 130, 131, 132, 255, 256,
		259, 386, 4095, 4096, 4097, 65536, 65539, 1<<32 + 1, 1<<32 + 3, math.MaxInt - 1, math.MaxInt,
	}
	for size := range 140 {
		for _, n := range numbers {
			for _, dist := range numbers {
				isLiteral := size >= 1 && size <= 128 && n == 0 && dist == 0
				isMatch := size == 0 && n >= 3 && n <= 130 && dist >= 1 && dist <= 4096
				x := api.Token{Lit: make([]byte, size), Len: n, Dist: dist}
				good(t, x, isLiteral || isMatch)
			}
		}
	}
	for _, size := range []int{256, 257, 384, 4096, 65536, 65537} {
		good(t, api.Token{Lit: make([]byte, size)}, false)
	}
}

// good checks what Good says of a token, and that Expand says the same.
func good(t *testing.T, x api.Token, want bool) {
	t.Helper()
	if got := lz.Good(x); got != want {
		t.Fatalf("Good is %v for %d bytes, Len %d and Dist %d", got, len(x.Lit), x.Len, x.Dist)
	}
	if _, e := lz.Expand([]api.Token{x}, math.MaxInt); (e != api.ErrForm) != want {
		t.Fatalf("Expand returns %d for %d bytes, Len %d and Dist %d", e, len(x.Lit), x.Len, x.Dist)
	}
}

// P11.2: each Len and each Dist a match may have, and the ones beside.
func TestGoodMatches(t *testing.T) {
	for n := -5; n < 140; n++ {
		good(t, match(n, 1), n >= 3 && n <= 130)
	}
	for dist := -5; dist < 4200; dist++ {
		good(t, match(3, dist), dist >= 1 && dist <= 4096)
		good(t, match(130, dist), dist >= 1 && dist <= 4096)
	}
	good(t, api.Token{}, false)
	good(t, api.Token{Lit: []byte{}, Len: 3, Dist: 1}, true)
	good(t, api.Token{Lit: make([]byte, 0, 9), Len: 3, Dist: 1}, true)
	good(t, api.Token{Lit: []byte{}}, false)
	good(t, api.Token{Lit: make([]byte, 128, 200)}, true)
}

// P11.2: tokens of all kinds, those that Tokens would not choose among them.
func TestExpandKnown(t *testing.T) {
	for _, c := range []struct {
		list []api.Token
		want string
	}{
		{nil, ""},
		{[]api.Token{}, ""},
		{[]api.Token{literal("a")}, "a"},
		{[]api.Token{literal("a"), literal("b"), literal("cd")}, "abcd"},
		{[]api.Token{literal("a"), match(4, 1)}, "aaaaa"},
		{[]api.Token{literal("ab"), match(5, 2)}, "abababa"},
		{[]api.Token{literal("abc"), match(3, 3)}, "abcabc"},
		{[]api.Token{literal("abc"), match(3, 2)}, "abcbcb"},
		{[]api.Token{literal("abc"), match(3, 1)}, "abcccc"},
		{[]api.Token{literal("abcdef"), match(3, 6)}, "abcdefabc"},
		{[]api.Token{literal("abcdef"), match(3, 5), match(4, 9), literal("x"), match(3, 2)}, "abcdefbcdabcdxdxd"},
	} {
		for _, most := range []int{len(c.want), len(c.want) + 1, math.MaxInt} {
			expands(t, c.list, most, []byte(c.want))
		}
		for most := range c.want {
			refused(t, c.list, most, api.ErrOver)
		}
		if len(c.list) > 0 {
			refused(t, c.list, -1, api.ErrOver)
			refused(t, c.list, math.MinInt, api.ErrOver)
		}
	}
}

// P11.2: no tokens are no bytes, which are never too many.
func TestExpandNone(t *testing.T) {
	for _, most := range []int{math.MinInt, -1, 0, 1, math.MaxInt} {
		expands(t, nil, most, nil)
		expands(t, []api.Token{}, most, nil)
	}
}

// P11.2: each length and each distance of a match, with as many bytes before it as there may be.
func TestExpandMatches(t *testing.T) {
	text := sample(10, maxDist+5)
	var head []api.Token
	for piece := range slices.Chunk(text, maxLit) {
		head = append(head, literal(string(piece)))
	}
	for n := minLen; n <= maxLen; n++ {
		for _, dist := range []int{1, 2, 3, n - 1, n, n + 1, 4095, 4096} {
			list := append(slices.Clone(head), match(n, dist))
			expands(t, list, len(text)+n, expanded(list))
			refused(t, list, len(text)+n-1, api.ErrOver)
		}
	}
	for dist := 1; dist <= maxDist; dist++ {
		list := append(slices.Clone(head), match(minLen, dist))
		expands(t, list, len(text)+minLen, expanded(list))
	}
}

// P11.2: a distance of more than the bytes before the match, be they of literals or of matches.
func TestTooFar(t *testing.T) {
	for n := 1; n <= maxLit; n++ {
		text := string(sample(int64(n), n))
		for dist := 1; dist < 300; dist++ {
			list := []api.Token{literal(text), match(3, dist)}
			if dist <= n {
				expands(t, list, n+3, expanded(list))
			} else {
				refused(t, list, n+3, api.ErrCorrupt)
			}
			list = []api.Token{literal(text), match(4, 1), match(5, dist)}
			if dist <= n+4 {
				expands(t, list, n+9, expanded(list))
			} else {
				refused(t, list, n+9, api.ErrCorrupt)
			}
		}
	}
	refused(t, []api.Token{match(3, 1)}, 3, api.ErrCorrupt)
	refused(t, []api.Token{match(130, 4096)}, math.MaxInt, api.ErrCorrupt)
	refused(t, []api.Token{match(3, 1), literal("abc")}, 99, api.ErrCorrupt)
}

// P11.2, R2: of several errors of a token the first that the chapter names.
func TestOrderOfErrors(t *testing.T) {
	bad := []api.Token{
		{}, match(2, 1), match(131, 1), match(3, 0), match(3, 4097), match(2, 4097), match(-1, -1),
		match(math.MaxInt, 1), match(math.MaxInt, math.MaxInt), match(math.MinInt, math.MinInt),
		{Lit: make([]byte, 129)}, {Lit: []byte("a"), Len: 3, Dist: 1}, {Lit: []byte("a"), Len: 3}, {Lit: []byte("a"), Dist: 1},
	}
	far := match(3, 9)
	for _, x := range bad {
		for _, most := range []int{math.MinInt, -1, 0, 1, 2, 100, math.MaxInt} {
			refused(t, []api.Token{x}, most, api.ErrForm)
			refused(t, []api.Token{x, far}, most, api.ErrForm)
			refused(t, []api.Token{far, x}, most, api.ErrCorrupt)
		}
		refused(t, []api.Token{literal("ab"), x}, 2, api.ErrForm)
		refused(t, []api.Token{literal("ab"), x}, 1, api.ErrOver)
		refused(t, []api.Token{literal("ab"), match(3, 2), x}, 4, api.ErrOver)
		refused(t, []api.Token{literal("ab"), match(3, 2), x}, 5, api.ErrForm)
	}
	refused(t, []api.Token{far}, 0, api.ErrCorrupt)
	refused(t, []api.Token{far}, math.MinInt, api.ErrCorrupt)
	refused(t, []api.Token{literal("ab"), far}, 2, api.ErrCorrupt)
	refused(t, []api.Token{literal("ab"), far}, 1, api.ErrOver)
}

// P11.2, R2: an error anywhere leaves nothing of the tokens before it.
func TestErrorAnywhere(t *testing.T) {
	list := searched(few(11, 300, 3))
	whole := expanded(list)
	size := 0
	for i := range list {
		for _, c := range []struct {
			x api.Token
			e api.Errno
		}{{api.Token{}, api.ErrForm}, {match(3, size+1), api.ErrCorrupt}} {
			broken := slices.Insert(slices.Clone(list), i, c.x)
			refused(t, broken, math.MaxInt, c.e)
			refused(t, broken, size, c.e)
			if size > 0 {
				refused(t, broken, size-1, api.ErrOver)
			}
		}
		size += max(len(list[i].Lit), list[i].Len)
		expands(t, list[:i+1], size, whole[:size])
	}
}

// P11.2: tokens by chance, good and bad ones, against the chapter's sentences one by one.
func TestRandomExpand(t *testing.T) {
	r := rand.New(rand.NewSource(12))
	counts := map[api.Errno]int{}
	for range 20000 {
		var list []api.Token
		for range r.Intn(12) {
			list = append(list, anyToken(r))
		}
		most := r.Intn(600) - 2
		want, e := judged(list, most)
		counts[e]++
		if e == api.OK {
			expands(t, list, most, want)
		} else {
			refused(t, list, most, e)
		}
	}
	for _, e := range []api.Errno{api.OK, api.ErrForm, api.ErrCorrupt, api.ErrOver} {
		if counts[e] < 100 {
			t.Errorf("error %d was expected only %d times", e, counts[e])
		}
	}
}

// anyToken returns a token that is good in most cases.
func anyToken(r *rand.Rand) api.Token {
	switch r.Intn(40) {
	case 0:
		return api.Token{Lit: sample(r.Int63(), r.Intn(300)), Len: r.Intn(3) - 1, Dist: r.Intn(3) - 1}
	case 1:
		return match(r.Intn(140), r.Intn(5000))
	}
	if r.Intn(2) == 0 {
		return api.Token{Lit: sample(r.Int63(), 1+r.Intn(maxLit))}
	}
	return match(minLen+r.Intn(maxLen-minLen+1), 1+r.Intn(1+r.Intn(60)))
}

// judged returns what tokens come to by the chapter's sentences.
func judged(list []api.Token, most int) ([]byte, api.Errno) {
	size := 0
	for _, x := range list {
		isLiteral := len(x.Lit) >= 1 && len(x.Lit) <= maxLit && x.Len == 0 && x.Dist == 0
		isMatch := len(x.Lit) == 0 && x.Len >= minLen && x.Len <= maxLen && x.Dist >= 1 && x.Dist <= maxDist
		switch {
		case !isLiteral && !isMatch:
			return nil, api.ErrForm
		case x.Dist > size:
			return nil, api.ErrCorrupt
		}
		size += len(x.Lit) + x.Len
		if size > most {
			return nil, api.ErrOver
		}
	}
	return expanded(list), api.OK
}

// R4: the arguments stay as they are, and so does what lies behind them.
func TestArgumentsStay(t *testing.T) {
	for n := range 300 {
		memory := few(int64(n), n+50, 4)
		list := lz.Tokens(memory[:n])
		if !bytes.Equal(memory, few(int64(n), n+50, 4)) {
			t.Fatalf("%d bytes: Tokens changed its argument", n)
		}
		behind := append(copied(list), literal("behind"), match(5, 6))
		// The literals, too, have spare capacity that belongs to the caller.
		for i := range behind {
			behind[i].Lit = append(behind[i].Lit, "spare"...)[:len(behind[i].Lit)]
		}
		kept := copied(behind)
		lz.Expand(behind[:len(list)], n)
		lz.Expand(behind[:len(list)], n-1)
		lz.Expand(behind, -1)
		for _, x := range behind {
			lz.Good(x)
		}
		if !equal(behind, kept) {
			t.Fatalf("%d bytes: Expand or Good changed the tokens", n)
		}
		for i, x := range behind {
			if s := x.Lit[len(x.Lit) : len(x.Lit)+5]; string(s) != "spare" {
				t.Fatalf("%d bytes: what lies behind literal %d is %q", n, i, s)
			}
		}
	}
}

// fill writes into all the memory of b, its spare capacity too.
func fill(b []byte) {
	b = b[:cap(b)]
	for i := range b {
		b[i] = 0xee
	}
}

// R4: each literal of a result has memory of its own, and so has the list.
func TestTokensAreNew(t *testing.T) {
	for _, b := range [][]byte{distinct(700), few(13, 700, 3), few(14, 3000, 20), []byte("abcXabcYZabcUV")} {
		kept := bytes.Clone(b)
		want := searched(b)
		list, other := lz.Tokens(b), lz.Tokens(b)
		for i := range want {
			filled := lz.Tokens(b)
			fill(filled[i].Lit)
			for k := range want {
				if k != i && !bytes.Equal(filled[k].Lit, want[k].Lit) {
					t.Fatalf("literals %d and %d share memory", i, k)
				}
			}
			fill(list[i].Lit)
		}
		clear(list[:cap(list)])
		if !bytes.Equal(b, kept) || !equal(other, want) {
			t.Fatal("a result of Tokens shares its memory")
		}
		// The other way round: who changes the bytes does not change the tokens.
		fill(b)
		if !equal(other, want) {
			t.Fatal("a result of Tokens shares its memory with the argument")
		}
	}
}

// R4: expanded bytes have memory of their own, also if they are those of one literal.
func TestBytesAreNew(t *testing.T) {
	for _, list := range [][]api.Token{
		{literal("abc")}, {literal("abc"), match(9, 2)}, {literal("abc"), literal("def")}, searched(few(15, 500, 3)),
	} {
		kept, want := copied(list), expanded(list)
		first, _ := lz.Expand(list, 1000)
		second, _ := lz.Expand(list, 1000)
		fill(first)
		if !bytes.Equal(second, want) || !equal(list, kept) {
			t.Fatalf("%s: a result of Expand shares its memory", brief(kept))
		}
		for _, x := range list {
			fill(x.Lit)
		}
		if !bytes.Equal(second, want) {
			t.Fatalf("%s: a result of Expand shares its memory with the argument", brief(kept))
		}
	}
}

// R5: a result depends on its arguments alone, not on the calls before or on what their arrays held before.
func TestCallsAreIndependent(t *testing.T) {
	b := few(16, 500, 3)
	want := searched(b)
	for n := range 200 {
		lz.Tokens(b[n:])
		lz.Tokens(sample(int64(n), 20*n))
		lz.Expand(want[:n%len(want)], 400)
		lz.Expand([]api.Token{literal("abc"), match(3, n)}, n)
		lz.Good(match(n, n))
		are(t, b, want...)
	}
	copy(b, few(17, 500, 2))
	agree(t, b)
	clear(b)
	agree(t, b)
}
