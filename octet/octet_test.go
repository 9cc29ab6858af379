package octet_test

import (
	"bytes"
	"math"
	"strings"
	"testing"

	"garderobe/api"
	"garderobe/octet"
)

// roomy returns b with spare capacity that is filled with a mark, and that whole memory.
func roomy(b []byte) (part, whole []byte) {
	whole = bytes.Repeat([]byte{0xA5}, len(b)+64)
	copy(whole, b)
	return whole[:len(b)], whole
}

func mustText(t *testing.T, b []byte, s string) []byte {
	t.Helper()
	out, e := octet.Text(b, s)
	if e != api.OK {
		t.Fatalf("Text of %d bytes: error %d", len(s), e)
	}
	return out
}

// P1.1: the encoding of a number.
func TestIntEncoding(t *testing.T) {
	cases := []struct {
		n    int
		want []byte
	}{
		{0, []byte{0, 0, 0, 0, 0, 0, 0, 0}},
		{1, []byte{0, 0, 0, 0, 0, 0, 0, 1}},
		{258, []byte{0, 0, 0, 0, 0, 0, 1, 2}},
		{255, []byte{0, 0, 0, 0, 0, 0, 0, 255}},
		{256, []byte{0, 0, 0, 0, 0, 0, 1, 0}},
		{-1, []byte{255, 255, 255, 255, 255, 255, 255, 255}},
		{-2, []byte{255, 255, 255, 255, 255, 255, 255, 254}},
		{-256, []byte{255, 255, 255, 255, 255, 255, 255, 0}},
		{1 << 31, []byte{0, 0, 0, 0, 128, 0, 0, 0}},
		{1 << 32, []byte{0, 0, 0, 1, 0, 0, 0, 0}},
		{0x0123456789ABCDEF, []byte{0x01, 0x23, 0x45, 0x67, 0x89, 0xAB, 0xCD, 0xEF}},
		{math.MaxInt64, []byte{127, 255, 255, 255, 255, 255, 255, 255}},
		{math.MinInt64, []byte{128, 0, 0, 0, 0, 0, 0, 0}},
	}
	for _, c := range cases {
		for _, before := range [][]byte{nil, {}, {9}, {1, 2, 3}} {
			want := append(append([]byte{}, before...), c.want...)
			if got := octet.Int(before, c.n); !bytes.Equal(got, want) {
				t.Errorf("Int(%v, %d) = %v, want %v", before, c.n, got, want)
			}
		}
	}
}

// P1.1: the encoding of a string.
func TestTextEncoding(t *testing.T) {
	cases := []struct {
		s    string
		want []byte
	}{
		{"", []byte{0, 0}},
		{"ab", []byte{0, 2, 97, 98}},
		{"\x00", []byte{0, 1, 0}},
		{"\xff\xfe\x80", []byte{0, 3, 255, 254, 128}},
		{"é", []byte{0, 2, 0xC3, 0xA9}},
	}
	for _, c := range cases {
		for _, before := range [][]byte{nil, {}, {9}, {1, 2, 3}} {
			want := append(append([]byte{}, before...), c.want...)
			if got := mustText(t, before, c.s); !bytes.Equal(got, want) {
				t.Errorf("Text(%v, %q) = %v, want %v", before, c.s, got, want)
			}
		}
	}
}

// P1.1: two bytes of length, up to the longest string.
func TestTextLengths(t *testing.T) {
	for _, n := range []int{1, 255, 256, 257, 65279, 65280, 65534, 65535} {
		s := strings.Repeat("q", n)
		want := append([]byte{7, byte(n / 256), byte(n % 256)}, s...)
		if got := mustText(t, []byte{7}, s); !bytes.Equal(got, want) {
			t.Errorf("length %d: %d bytes, beginning with %v", n, len(got), got[:3])
		}
	}
}

// P1.1: a string that is too long, with no bytes beside the error (R3).
func TestTextOver(t *testing.T) {
	for _, n := range []int{65536, 65537, 131072, 1 << 20} {
		if got, e := octet.Text([]byte{7}, strings.Repeat("q", n)); e != api.ErrOver || len(got) != 0 {
			t.Errorf("length %d: %d bytes, error %d", n, len(got), e)
		}
	}
}

// R4: the argument is as it was, with its spare capacity, and shares no memory with the result.
func TestEncodersLeaveTheirArgument(t *testing.T) {
	encoders := map[string]func([]byte) []byte{
		"Int":        func(b []byte) []byte { return octet.Int(b, -1) },
		"Text":       func(b []byte) []byte { return mustText(t, b, "hello") },
		"empty Text": func(b []byte) []byte { return mustText(t, b, "") },
		"Text over": func(b []byte) []byte {
			out, _ := octet.Text(b, strings.Repeat("q", 65536))
			return out
		},
	}
	for name, encode := range encoders {
		for _, before := range [][]byte{{}, {1, 2, 3}} {
			part, whole := roomy(before)
			kept := bytes.Clone(whole)
			out := encode(part)
			for i := range out[:cap(out)] {
				out[:cap(out)][i] ^= 0xFF
			}
			if !bytes.Equal(whole, kept) {
				t.Errorf("%s changed or shares its argument %v", name, before)
			}
		}
	}
}

// R4: two results from one beginning do not overwrite each other.
func TestResultsAreApart(t *testing.T) {
	before := octet.Int(nil, 1)
	a := octet.Int(before, 2)
	b := octet.Int(before, 3)
	c := mustText(t, before, "ab")
	want := octet.New(a)
	if want.Int() != 1 || want.Int() != 2 || !bytes.Equal(b[8:], []byte{0, 0, 0, 0, 0, 0, 0, 3}) || !bytes.Equal(c[8:], []byte{0, 2, 97, 98}) {
		t.Errorf("%v, %v, %v", a, b, c)
	}
}

// P1.2: what was encoded is read back, in its order.
func TestReadBack(t *testing.T) {
	numbers := []int{0, 1, -1, 258, -258, 1 << 40, math.MaxInt64, math.MinInt64}
	texts := []string{"", "ab", "\x00\xff\x80", "é", strings.Repeat("z", 256), strings.Repeat("z", 65535)}
	var b []byte
	for _, n := range numbers {
		b = octet.Int(b, n)
		for _, s := range texts {
			b = mustText(t, b, s)
		}
	}
	r := octet.New(b)
	left := len(b)
	for _, n := range numbers {
		if got := r.Int(); got != n {
			t.Fatalf("number %d, want %d", got, n)
		}
		left -= 8
		for _, s := range texts {
			if r.End() || r.Left() != left {
				t.Fatalf("before a text: %d left, want %d; end: %v", r.Left(), left, r.End())
			}
			if got := r.Text(api.MaxRec); got != s {
				t.Fatalf("text of %d bytes, want %d", len(got), len(s))
			}
			left -= 2 + len(s)
		}
	}
	if r.Left() != 0 || !r.End() {
		t.Errorf("at the end: %d left, end: %v", r.Left(), r.End())
	}
}

// P1.2: a Reader takes any bytes, not only those that an encoder made.
func TestReadAnyBytes(t *testing.T) {
	r := octet.New([]byte{0x80, 0, 0, 0, 0, 0, 0, 0x7F, 0, 1, 0, 0xFF})
	if n := r.Int(); n != math.MinInt64+0x7F {
		t.Error("number", n)
	}
	if s := r.Text(9); s != "\x00" {
		t.Errorf("text %q", s)
	}
	if r.Left() != 1 || r.End() {
		t.Error("one byte behind", r.Left(), r.End())
	}
}

// checkInvalid calls everything on an invalid Reader, again and again.
func checkInvalid(t *testing.T, name string, r *octet.Reader) {
	t.Helper()
	for range 3 {
		if n := r.Left(); n != 0 {
			t.Errorf("%s: Left %d", name, n)
		}
		if r.End() {
			t.Errorf("%s: End", name)
		}
		if s := r.Text(api.MaxRec); s != "" {
			t.Errorf("%s: Text %q", name, s)
		}
		if s := r.Text(0); s != "" {
			t.Errorf("%s: Text %q", name, s)
		}
		if n := r.Int(); n != 0 {
			t.Errorf("%s: Int %d", name, n)
		}
	}
}

// P1.2: too few bytes for a number.
func TestIntCut(t *testing.T) {
	for n := range 8 {
		b := bytes.Repeat([]byte{1}, n)
		r := octet.New(b)
		if got := r.Int(); got != 0 {
			t.Errorf("Int of %d bytes: %d", n, got)
		}
		checkInvalid(t, "cut number", r)

		r = octet.New(append(octet.Int(nil, -5), b...))
		if got := r.Int(); got != -5 {
			t.Errorf("Int: %d", got)
		}
		if got := r.Int(); got != 0 {
			t.Errorf("second Int of %d bytes: %d", n, got)
		}
		checkInvalid(t, "cut second number", r)
	}
}

// P1.2: too few bytes for a string, or for its length.
func TestTextCut(t *testing.T) {
	whole := mustText(t, nil, "hello")
	for n := range len(whole) {
		r := octet.New(whole[:n])
		if got := r.Text(api.MaxRec); got != "" {
			t.Errorf("Text of %d bytes: %q", n, got)
		}
		checkInvalid(t, "cut text", r)
	}
	r := octet.New(append([]byte{255, 255}, bytes.Repeat([]byte{1}, 65534)...))
	if got := r.Text(math.MaxInt); got != "" {
		t.Errorf("Text of a byte too few: %d bytes", len(got))
	}
	checkInvalid(t, "longest text, cut", r)
}

// P1.2: bytes behind the slice's length are not read, though the capacity has them.
func TestSpareCapacityIsNotRead(t *testing.T) {
	whole := mustText(t, octet.Int(nil, 77), "hello")
	r := octet.New(whole[:7])
	if r.Left() != 7 || r.Int() != 0 {
		t.Error("a number beyond the length")
	}
	checkInvalid(t, "number beyond the length", r)
	r = octet.New(whole[8:12])
	if r.Text(9) != "" {
		t.Error("a text beyond the length")
	}
	checkInvalid(t, "text beyond the length", r)
}

// P1.2: a string of exactly most bytes is read; a longer one makes the Reader invalid, for good.
func TestTextMost(t *testing.T) {
	long := strings.Repeat("y", 65535)
	cases := []struct {
		s    string
		most int
		ok   bool
	}{
		{"hello", 5, true}, {"hello", 6, true}, {"hello", math.MaxInt, true},
		{"hello", 4, false}, {"hello", 0, false}, {"hello", -1, false}, {"hello", math.MinInt, false},
		{"", 0, true}, {"", 7, true}, {"", -1, false}, {"", math.MinInt, false},
		{long, 65535, true}, {long, 65536, true}, {long, 65534, false},
	}
	for _, c := range cases {
		// Behind the string stand bytes that a Reader that is still valid would read.
		r := octet.New(append(mustText(t, nil, c.s), 0, 1, 65, 0, 0, 0, 0, 0, 0, 0, 9))
		got := r.Text(c.most)
		if !c.ok {
			if got != "" {
				t.Errorf("Text(%d): %d bytes", c.most, len(got))
			}
			checkInvalid(t, "too long a text", r)
			continue
		}
		if got != c.s || r.Left() != 11 || r.Text(1) != "A" || r.Int() != 9 || !r.End() {
			t.Errorf("Text(%d) of %d bytes: %d bytes", c.most, len(c.s), len(got))
		}
	}
}

// P1.2: nothing to read is the end, until something is asked for.
func TestNothing(t *testing.T) {
	for _, b := range [][]byte{nil, {}} {
		r := octet.New(b)
		if r == nil || r.Left() != 0 || !r.End() || !r.End() {
			t.Fatal("nothing is not the end")
		}
		if r.Int() != 0 {
			t.Error("Int of nothing")
		}
		checkInvalid(t, "number of nothing", r)
		r = octet.New(b)
		if r.Text(5) != "" {
			t.Error("Text of nothing")
		}
		checkInvalid(t, "text of nothing", r)
	}
}

// P1.2: reading behind the end makes a Reader that was at its end invalid.
func TestBehindTheEnd(t *testing.T) {
	r := octet.New(octet.Int(nil, 3))
	if r.Int() != 3 || !r.End() {
		t.Fatal("not at the end")
	}
	if r.Text(0) != "" {
		t.Error("Text behind the end")
	}
	checkInvalid(t, "behind the end", r)
}

// P1.2: a nil Reader.
func TestNilReader(t *testing.T) {
	var r *octet.Reader
	for _, most := range []int{math.MinInt, -1, 0, 3, math.MaxInt} {
		if r.Text(most) != "" {
			t.Error("Text", most)
		}
	}
	checkInvalid(t, "nil", r)
}

// R4: a Reader neither keeps nor changes the bytes that it was given.
func TestReaderKeepsNothing(t *testing.T) {
	whole := mustText(t, octet.Int(nil, 258), "ab")
	part, memory := roomy(whole)
	kept := bytes.Clone(memory)
	r := octet.New(part)
	other := octet.New(part)
	if other.Int() != 258 || other.Text(2) != "ab" || !other.End() || !bytes.Equal(memory, kept) {
		t.Error("changed by reading")
	}
	clear(memory)
	if r.Left() != 12 || r.Int() != 258 || r.Text(2) != "ab" || !r.End() {
		t.Error("kept")
	}
}
