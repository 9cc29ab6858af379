package sheet_test

import (
	"bytes"
	"encoding/binary"
	"encoding/hex"
	"hash/crc32"
	"math"
	"math/rand"
	"slices"
	"strings"
	"testing"

	"garderobe/api"
	"garderobe/disk"
	"garderobe/sheet"
)

// The numbers of the chapter.
const (
	most    = 65535     // bytes of a record
	highest = 1<<32 - 1 // epoch or seq
	sector  = 32
	before  = 24 // bytes of a sector before the mark
)

// ends are valid epochs and seqs: the least and the greatest, and those around each byte and bit that can be lost.
var ends = []int{0, 1, 2, 127, 128, 255, 256, 257, 65535, 65536, 65537, 1<<24 - 1, 1 << 24, 1<<31 - 1, 1 << 31, 1<<31 + 1, highest - 1, highest}

// invalid are no epochs and no seqs.
var invalid = []int{math.MinInt, math.MinInt + 1, -1 << 32, -1<<32 + 1, math.MinInt32, -256, -2, -1, 1 << 32, 1<<32 + 1, 1 << 33, 1 << 40, 1 << 62, math.MaxInt - 1, math.MaxInt}

// A record is what a record consists of.
type record struct {
	epoch, seq int
	b          []byte
}

// sample returns n bytes that are the same in every run.
func sample(seed int64, n int) []byte {
	b := make([]byte, n)
	rand.New(rand.NewSource(seed)).Read(b)
	return b
}

// mark returns the mark of an epoch and a seq.
func mark(epoch, seq int) []byte {
	return binary.BigEndian.AppendUint32(binary.BigEndian.AppendUint32(nil, uint32(epoch)), uint32(seq))
}

// cut returns a content in sectors, with the mark behind each part.
func cut(mark, content []byte) []byte {
	var s []byte
	for i := 0; i < len(content); i += before {
		s = slices.Concat(s, content[i:i+before], mark)
	}
	return s
}

// filled returns a content with the zero bytes that its length lacks.
func filled(content []byte) []byte {
	for len(content)%before > 0 {
		content = append(content, 0)
	}
	return content
}

// summed returns sectors whose content has that length ahead, whatever its bytes are, and the checksum of both.
func summed(r record, length int) []byte {
	content := append(binary.BigEndian.AppendUint16(nil, uint16(length)), r.b...)
	sum := crc32.ChecksumIEEE(append(mark(r.epoch, r.seq), content...))
	return cut(mark(r.epoch, r.seq), filled(binary.BigEndian.AppendUint32(content, sum)))
}

// sectors returns the sectors of a record, by the chapter's sentences.
func (r record) sectors() []byte {
	return summed(r, len(r.b))
}

// begun returns the record that s begins with, by the chapter's sentences.
func begun(s []byte) (r record, count int, ok bool) {
	if len(s) < sector {
		return record{}, 0, false
	}
	n := int(s[0])*256 + int(s[1])
	for before*count < 2+n+4 {
		count++
	}
	if len(s) < sector*count {
		return record{}, 0, false
	}
	m := s[before:sector]
	var content []byte
	for i := range count {
		if !bytes.Equal(s[sector*i+before:sector*(i+1)], m) {
			return record{}, 0, false
		}
		content = append(content, s[sector*i:sector*i+before]...)
	}
	if !bytes.Equal(content[n+6:], make([]byte, len(content)-n-6)) {
		return record{}, 0, false
	}
	sum := crc32.ChecksumIEEE(append(bytes.Clone(m), content[:2+n]...))
	if binary.BigEndian.Uint32(content[2+n:]) != sum {
		return record{}, 0, false
	}
	return record{int(binary.BigEndian.Uint32(m)), int(binary.BigEndian.Uint32(m[4:])), content[2 : 2+n]}, count, true
}

// lifts checks that s begins with that record.
func lifts(t *testing.T, s []byte, r record, count int) {
	t.Helper()
	epoch, seq, b, n, e := sheet.Lift(s)
	if e != api.OK || epoch != r.epoch || seq != r.seq || !bytes.Equal(b, r.b) || n != count {
		t.Fatalf("Lift(%.80x) (%d bytes) = %d, %d, %.60x (%d bytes), %d, %d, want %d, %d, %.60x (%d bytes), %d",
			s, len(s), epoch, seq, b, len(b), n, e, r.epoch, r.seq, r.b, len(r.b), count)
	}
}

// refuses checks that s begins with no record, and that nothing else is returned.
func refuses(t *testing.T, s []byte) {
	t.Helper()
	if epoch, seq, b, n, e := sheet.Lift(s); e != api.ErrForm || epoch != 0 || seq != 0 || len(b) != 0 || n != 0 {
		t.Fatalf("Lift(%.80x) (%d bytes) = %d, %d, %.60x (%d bytes), %d, %d", s, len(s), epoch, seq, b, len(b), n, e)
	}
}

// decides checks Lift against the chapter's sentences.
func decides(t *testing.T, s []byte) bool {
	t.Helper()
	r, count, ok := begun(s)
	if !ok {
		refuses(t, s)
		return false
	}
	lifts(t, s, r, count)
	return true
}

// lays checks the sectors of a record.
func lays(t *testing.T, r record, want []byte) {
	t.Helper()
	if s, e := sheet.Lay(r.epoch, r.seq, r.b); e != api.OK || !bytes.Equal(s, want) {
		t.Fatalf("Lay(%d, %d, %.60x (%d bytes)) = %.80x (%d bytes), %d, want %.80x (%d bytes)",
			r.epoch, r.seq, r.b, len(r.b), s, len(s), e, want, len(want))
	}
	if n := sheet.Count(len(r.b)); sector*n != len(want) {
		t.Fatalf("Count(%d) = %d for %d bytes of sectors", len(r.b), n, len(want))
	}
}

// agree checks a record there and back against the chapter's sentences, with and without bytes behind it.
func agree(t *testing.T, r record) {
	t.Helper()
	s := r.sectors()
	lays(t, r, s)
	lifts(t, s, r, len(s)/sector)
	lifts(t, append(bytes.Clone(s), 5), r, len(s)/sector)
	lifts(t, append(bytes.Clone(s), s...), r, len(s)/sector)
}

// notLaid checks an error of Lay, and that no sectors are returned.
func notLaid(t *testing.T, r record, want api.Errno) {
	t.Helper()
	if s, e := sheet.Lay(r.epoch, r.seq, r.b); e != want || len(s) != 0 {
		t.Fatalf("Lay(%d, %d, %d bytes) = %.60x, %d, want %d", r.epoch, r.seq, len(r.b), s, e, want)
	}
}

// known are records and their sectors, made without the program; a bar stands ahead of each mark.
var known = []struct {
	epoch, seq int
	b, sectors string
}{
	{0, 0, "", "0000e38a6876000000000000000000000000000000000000|0000000000000000"},
	{1, 0, "s", "000173773aa0b50000000000000000000000000000000000|0000000100000000"},
	{258, 9, "hi", "000268692d3f0b9b00000000000000000000000000000000|0000010200000009"},
	{highest, highest, "", "0000b1c2a1a3000000000000000000000000000000000000|ffffffffffffffff"},
	{1, 2, "abcdefghijklmnopqr", "00126162636465666768696a6b6c6d6e6f707172c92cd127|0000000100000002"},
	{1, 2, "abcdefghijklmnopqrs", "00136162636465666768696a6b6c6d6e6f70717273dbaa6d|0000000100000002" +
		"f70000000000000000000000000000000000000000000000|0000000100000002"},
	{1, 2, "abcdefghijklmnopqrstuv", "00166162636465666768696a6b6c6d6e6f70717273747576|0000000100000002" +
		"8a6331f10000000000000000000000000000000000000000|0000000100000002"},
	{0x01020304, 0x05060708, "abcdefghijklmnopqrstuvwxyz0123456789ABCDEF",
		"002a6162636465666768696a6b6c6d6e6f70717273747576|0102030405060708" +
			"7778797a30313233343536373839414243444546bf533611|0102030405060708"},
	{0x01020304, 0x05060708, "abcdefghijklmnopqrstuvwxyz0123456789ABCDEFG",
		"002b6162636465666768696a6b6c6d6e6f70717273747576|0102030405060708" +
			"7778797a30313233343536373839414243444546477a9d70|0102030405060708" +
			"180000000000000000000000000000000000000000000000|0102030405060708"},
	{0xdeadbeef, 1 << 31, strings.Repeat("\xff", 256),
		"0100ffffffffffffffffffffffffffffffffffffffffffff|deadbeef80000000" +
			strings.Repeat("ffffffffffffffffffffffffffffffffffffffffffffffff|deadbeef80000000", 9) +
			"ffffffffffffffffffffffffffffffffffffd56a248b0000|deadbeef80000000"},
}

// P15.1, P15.2: records and their sectors that are known, the chapter's example among them.
func TestKnown(t *testing.T) {
	for _, c := range known {
		s, err := hex.DecodeString(strings.ReplaceAll(c.sectors, "|", ""))
		if err != nil {
			t.Fatal(err)
		}
		r := record{c.epoch, c.seq, []byte(c.b)}
		if !bytes.Equal(r.sectors(), s) {
			t.Fatalf("the tests themselves make %x of %q", r.sectors(), c.b)
		}
		lays(t, r, s)
		lifts(t, s, r, len(s)/sector)
	}
}

// P15.1: the numbers of sectors that the chapter and its limits name.
func TestCountKnown(t *testing.T) {
	for n, want := range map[int]int{
		0: 1, 1: 1, 17: 1, 18: 1, 19: 2, 20: 2, 41: 2, 42: 2, 43: 3, 66: 3, 67: 4, 1000: 42, 65514: 2730, 65515: 2731, 65534: 2731, most: 2731,
	} {
		if got := sheet.Count(n); got != want {
			t.Errorf("Count(%d) = %d, want %d", n, got, want)
		}
	}
	if api.MaxRec != most {
		t.Errorf("MaxRec is %d", api.MaxRec)
	}
}

// P15.1: each number of bytes takes as many sectors as its content needs.
func TestCountAll(t *testing.T) {
	want := 1
	for n := range most + 1 {
		for before*want < 2+n+4 {
			want++
		}
		if got := sheet.Count(n); got != want {
			t.Fatalf("Count(%d) = %d, want %d", n, got, want)
		}
	}
}

// P15.1, R1: no record has fewer bytes than none, or more than the limit.
func TestCountNone(t *testing.T) {
	for _, n := range append(slices.Clone(invalid), -3, -24, -65535, most+1, most+2, 65540, 65558, 65559, 2*most, 1<<20, 1<<31-1, 1<<31, highest, 1<<32-6) {
		if got := sheet.Count(n); got != 0 {
			t.Errorf("Count(%d) = %d", n, got)
		}
	}
}

// P15.1, P15.2, P1: records of each length that takes a few sectors.
func TestLengths(t *testing.T) {
	for n := range 700 {
		agree(t, record{n, 7 * n, sample(int64(n), n)})
		agree(t, record{0, 0, make([]byte, n)})
		agree(t, record{highest, highest - n, bytes.Repeat([]byte{255}, n)})
	}
}

// P15.1, P15.2, P1: records up to the greatest, also just below and above those that fill their last sector.
func TestLongRecords(t *testing.T) {
	for _, n := range []int{4095, 4096, 4097, 32767, 32768, 65279, 65280, 65490, 65491, 65513, 65514, 65515, 65516, 65533, 65534, most} {
		agree(t, record{n, highest - n, sample(int64(n), n)})
	}
	agree(t, record{0, 0, make([]byte, most)})
}

// P15.1, P15.2: all ends of the ranges of epoch and seq, with records of one to three sectors.
func TestMarks(t *testing.T) {
	for _, epoch := range ends {
		for _, seq := range ends {
			for _, n := range []int{0, 5, 18, 19, 42, 43} {
				agree(t, record{epoch, seq, sample(int64(n), n)})
			}
		}
	}
}

// P15.1, R2, R3: an epoch or a seq that is not valid, also together with too many bytes.
func TestInvalidMarks(t *testing.T) {
	for _, n := range []int{0, 1, 18, 19, most, most + 1, 2 * most} {
		b := sample(1, n)
		for _, no := range invalid {
			notLaid(t, record{no, 0, b}, api.ErrArg)
			notLaid(t, record{no, highest, b}, api.ErrArg)
			notLaid(t, record{0, no, b}, api.ErrArg)
			notLaid(t, record{highest, no, b}, api.ErrArg)
			notLaid(t, record{no, no, b}, api.ErrArg)
			notLaid(t, record{no, -no, b}, api.ErrArg)
		}
	}
}

// P15.1, R3: more bytes than the limit.
func TestOver(t *testing.T) {
	agree(t, record{3, 4, sample(2, most)})
	for _, n := range []int{65536, 65537, 65538, 65559, 65560, 2*65536 - 1, 2 * 65536, 2*65536 + 3, api.MaxBytes, api.MaxBytes + 1} {
		notLaid(t, record{0, 0, make([]byte, n)}, api.ErrOver)
		notLaid(t, record{highest, highest, sample(int64(n), n)}, api.ErrOver)
		notLaid(t, record{1, highest, make([]byte, n, 2*n)}, api.ErrOver)
	}
}

// P15.1, P15.2, R1: a record without bytes is laid alike, however none of them are given.
func TestNoBytes(t *testing.T) {
	for _, b := range [][]byte{nil, {}, make([]byte, 0, 9), []byte("abc")[:0]} {
		agree(t, record{3, 4, b})
	}
}

// P15.2, R3: no sectors, and all beginnings of a record that are not all of it.
func TestCuts(t *testing.T) {
	refuses(t, nil)
	refuses(t, []byte{})
	refuses(t, make([]byte, 0, 100))
	for _, n := range []int{0, 1, 17, 18, 19, 20, 41, 42, 43, 200, 256, 300} {
		s := record{n, n + 1, sample(int64(n), n)}.sectors()
		for size := range s {
			refuses(t, s[:size])
			refuses(t, bytes.Clone(s[:size:size]))
		}
	}
	s := record{1, 2, sample(3, most)}.sectors()
	for size := 0; size < len(s); size += 997 {
		refuses(t, s[:size])
	}
	refuses(t, s[:len(s)-1])
	refuses(t, s[:len(s)-sector])
}

// P15.2: what is behind the sectors of a record does not matter.
func TestBehind(t *testing.T) {
	for _, n := range []int{0, 18, 19, 42, 43, 99} {
		r := record{n, highest - n, sample(int64(n), n)}
		s := r.sectors()
		for size := range 3 * sector {
			for _, behind := range [][]byte{make([]byte, size), bytes.Repeat([]byte{255}, size), sample(int64(size), size)} {
				lifts(t, slices.Concat(s, behind), r, len(s)/sector)
			}
		}
		lifts(t, slices.Concat(s, make([]byte, 1<<20)), r, len(s)/sector)
	}
}

// P15.2: the number of sectors leads from each record to the next one.
func TestOneAfterTheOther(t *testing.T) {
	var list []record
	var s []byte
	for i := range 60 {
		list = append(list, record{i % 3, i, sample(int64(i), 5*i)})
		s = append(s, list[i].sectors()...)
	}
	for _, r := range list {
		_, _, _, n, _ := sheet.Lift(s)
		lifts(t, s, r, n)
		s = s[sector*n:]
	}
	refuses(t, s)
}

// P15.2: a record must begin with the first byte.
func TestShifted(t *testing.T) {
	for _, n := range []int{0, 18, 19, 43, 100} {
		s := record{5, 6, sample(int64(n), n)}.sectors()
		for size := 1; size <= 2*sector; size++ {
			refuses(t, slices.Concat(make([]byte, size), s))
			decides(t, slices.Concat(sample(int64(size), size), s))
			decides(t, s[min(size, len(s)):])
		}
	}
}

// P15.2, R3: each byte of a record, changed to each other value.
func TestChanges(t *testing.T) {
	for _, n := range []int{0, 3, 17, 18, 19, 23, 42, 43, 70} {
		whole := record{0x01020304, 0x05060708, sample(int64(n), n)}.sectors()
		for i := range whole {
			for c := range 256 {
				s := bytes.Clone(whole)
				s[i] = byte(c)
				if decides(t, s) != (byte(c) == whole[i]) {
					t.Fatalf("%d bytes: byte %d is %d instead of %d", n, i, c, whole[i])
				}
				decides(t, append(s, whole...))
			}
		}
	}
}

// P15.2: each bit of a long record, at some distance from each other, and all bits of its first and last sector.
func TestChangesOfLongRecords(t *testing.T) {
	whole := record{7, 8, sample(1, most)}.sectors()
	for i := 0; i < 8*len(whole); i++ {
		if i == 8*sector {
			i = 8 * (len(whole) - sector)
		}
		whole[i/8] ^= 1 << (i % 8)
		refuses(t, whole)
		whole[i/8] ^= 1 << (i % 8)
	}
	for i := sector; i < len(whole); i += 239 {
		whole[i] ^= 16
		refuses(t, whole)
		whole[i] ^= 16
	}
	lifts(t, whole, record{7, 8, sample(1, most)}, 2731)
}

// P15.2: a length that is wrong, although the checksum is that of the content with it.
func TestWrongLengths(t *testing.T) {
	for _, n := range []int{0, 1, 18, 19, 40, 42, 43, 260} {
		r := record{1, 2, sample(int64(n), n)}
		for length := range most + 1 {
			if length < 600 || length > most-600 {
				s := summed(r, length)
				if decides(t, s) != (length == n) {
					t.Fatalf("%d bytes with the length %d", n, length)
				}
			}
		}
	}
	// All bytes are zero, so that a shorter record would have the same beginning.
	for n := range 100 {
		for length := range 120 {
			decides(t, summed(record{0, 0, make([]byte, n)}, length))
		}
	}
}

// P15.2: behind the checksum there are zero bytes, which it does not contain.
func TestZeroBytes(t *testing.T) {
	for n := range 50 {
		r := record{1, 2, sample(int64(n), n)}
		content := append([]byte{0, byte(n)}, r.b...)
		content = binary.BigEndian.AppendUint32(content, crc32.ChecksumIEEE(append(mark(1, 2), content...)))
		size := len(content)
		content = filled(content)
		lifts(t, cut(mark(1, 2), content), r, len(content)/before)
		for i := size; i < len(content); i++ {
			for _, c := range []byte{1, 128, 255} {
				content[i] = c
				refuses(t, cut(mark(1, 2), content))
			}
			content[i] = 0
		}
	}
}

// P15.2: the zero bytes are as few as possible; a sector of them does not belong to the record.
func TestFewestZeroBytes(t *testing.T) {
	for _, n := range []int{0, 17, 18, 19, 42} {
		r := record{1, 2, sample(int64(n), n)}
		s := r.sectors()
		more := slices.Concat(s, make([]byte, before), mark(1, 2))
		lifts(t, more, r, len(s)/sector)
	}
}

// P15.2: checksums of less or more than the mark, the length and the bytes, and in other orders.
func TestOtherChecksums(t *testing.T) {
	for n := range 60 {
		b, m := sample(int64(n), n), mark(0x01020304, 0x05060708)
		length := []byte{0, byte(n)}
		right := slices.Concat(m, length, b)
		for _, text := range [][]byte{
			right,
			slices.Concat(length, b),
			slices.Concat(length, b, m),
			slices.Concat(m, b),
			slices.Concat(m, length),
			slices.Concat(m[:4], length, b),
			slices.Concat(m[4:], length, b),
			slices.Concat(m[4:], m[:4], length, b),
			slices.Concat(m, b, length),
			slices.Concat(m, length, b, []byte{0}),
			slices.Concat(m, filled(slices.Concat(length, b))),
		} {
			sum := crc32.ChecksumIEEE(text)
			s := cut(m, filled(binary.BigEndian.AppendUint32(slices.Concat(length, b), sum)))
			if decides(t, s) != bytes.Equal(text, right) {
				t.Fatalf("%x is accepted with the checksum of %x", s, text)
			}
		}
		sum := crc32.ChecksumIEEE(right)
		refuses(t, cut(m, filled(binary.LittleEndian.AppendUint32(slices.Concat(length, b), sum))))
		refuses(t, cut(m, filled(binary.BigEndian.AppendUint32(slices.Concat(length, b), ^sum))))
	}
}

// P15.2, P15.3: the checksum contains the mark, so that sectors can't all get another mark.
func TestOtherMarks(t *testing.T) {
	for _, n := range []int{0, 18, 19, 43, 100} {
		s := record{1000, 2000, sample(int64(n), n)}.sectors()
		for _, epoch := range append(slices.Clone(ends), 999, 1001, 2000) {
			for _, seq := range append(slices.Clone(ends), 1999, 2001, 1000) {
				other := bytes.Clone(s)
				for i := before; i < len(s); i += sector {
					copy(other[i:], mark(epoch, seq))
				}
				refuses(t, other)
			}
		}
	}
}

// P15.2, P15.3: each sector with the mark of another record, of the same epoch, the same seq, or neither.
func TestOneOtherMark(t *testing.T) {
	for _, n := range []int{19, 43, 100, 300} {
		s := record{1000, 2000, sample(int64(n), n)}.sectors()
		for i := before; i < len(s); i += sector {
			for _, m := range [][]byte{mark(999, 2000), mark(1001, 2000), mark(1000, 1999), mark(1000, 2001), mark(2000, 1000), mark(0, 0), mark(highest, highest), mark(1000+1<<24, 2000)} {
				other := bytes.Clone(s)
				copy(other[i:], m)
				refuses(t, other)
			}
		}
	}
}

// P15.2: sectors of one record in another order, or twice.
func TestOtherOrders(t *testing.T) {
	r := record{3, 4, sample(1, 100)}
	s := r.sectors()
	count := len(s) / sector
	for i := range count {
		for j := range count {
			swapped := bytes.Clone(s)
			copy(swapped[sector*i:], s[sector*j:sector*(j+1)])
			copy(swapped[sector*j:], s[sector*i:sector*(i+1)])
			if decides(t, swapped) != (i == j) {
				t.Fatalf("sectors %d and %d are exchanged", i, j)
			}
			twice := bytes.Clone(s)
			copy(twice[sector*i:], s[sector*j:sector*(j+1)])
			if decides(t, twice) != (i == j) {
				t.Fatalf("sector %d is also at %d", j, i)
			}
		}
	}
}

// P15.2: the same byte everywhere, which is no record.
func TestAllAlike(t *testing.T) {
	for c := range 256 {
		for _, n := range []int{1, 31, 32, 33, 64, 320, sector * 2731, 1 << 17} {
			refuses(t, bytes.Repeat([]byte{byte(c)}, n))
		}
	}
}

// over checks what s begins with, and whether it is that record and no older one.
func over(t *testing.T, s []byte, r record) bool {
	t.Helper()
	decides(t, s)
	found, _, ok := begun(s)
	return ok && found.epoch == r.epoch && found.seq == r.seq && bytes.Equal(found.b, r.b)
}

// P15.3: of a record that is written over an older one, each sector may be there or not; the record is accepted if
// all of them are there, and the older one if none is.
func TestSomeSectors(t *testing.T) {
	for _, n := range []int{0, 18, 19, 42, 43, 100, 114} {
		r := record{7, 8, sample(1, n)}
		s := r.sectors()
		all := 1<<(len(s)/sector) - 1
		for _, old := range []record{
			{6, 8, sample(2, n)}, {7, 7, sample(2, n)}, {6, 7, sample(1, n)}, {8, 7, sample(2, 114)}, {6, 9, sample(2, 5)}, {7, 8, sample(2, n+200)},
		} {
			under := append(old.sectors(), make([]byte, len(s))...)
			lifts(t, under, old, len(old.sectors())/sector)
			for set := range all + 1 {
				now := bytes.Clone(under)
				for i := range len(s) / sector {
					if set>>i&1 == 1 {
						copy(now[sector*i:], s[sector*i:sector*(i+1)])
					}
				}
				if over(t, now, r) != (set == all) {
					t.Fatalf("%d bytes over epoch %d, seq %d: accepted, or not, with the sectors %b", n, old.epoch, old.seq, set)
				}
			}
		}
	}
}

// P15.3: a sector whose end was not written has a different mark, so that the record is not accepted.
func TestTornSectors(t *testing.T) {
	for _, n := range []int{0, 18, 19, 42, 43, 100} {
		r := record{7, 8, sample(1, n)}
		s := r.sectors()
		for _, c := range []struct {
			old record
			end int // of the bytes in which the marks differ
		}{
			{record{6, 7, sample(2, 114)}, 32}, {record{8, 6, sample(2, 114)}, 32}, {record{7, 7, sample(1, n)}, 32},
			{record{0, 0, sample(1, n)}, 32}, {record{7, 256 + 8, sample(1, n)}, 31}, {record{7, 1<<24 + 8, sample(2, 114)}, 29},
			{record{6, 8, sample(2, 114)}, 28}, {record{1<<24 + 7, 8, sample(1, n)}, 25},
		} {
			under := append(c.old.sectors(), make([]byte, len(s))...)
			end := c.end
			for i := 0; i < len(s); i += sector {
				if i == len(c.old.sectors()) {
					end = 32 // from here on the disk has zero bytes
				}
				for written := range sector + 1 {
					now := slices.Concat(s, under[len(s):])
					copy(now[i+written:i+sector], under[i+written:i+sector])
					if over(t, now, r) != (written >= end) {
						t.Fatalf("%d bytes over epoch %d, seq %d: %d bytes of sector %d", n, c.old.epoch, c.old.seq, written, i/sector)
					}
				}
			}
		}
	}
}

// P15.3: a record with the same epoch and seq has the same marks, so that only the checksum tells them apart.
func TestSameMarks(t *testing.T) {
	r, old := record{7, 8, sample(1, 100)}, record{7, 8, sample(2, 100)}
	s, under := r.sectors(), old.sectors()
	for written := range s {
		now := append(bytes.Clone(s[:written]), under[written:]...)
		if written <= 2 {
			lifts(t, now, old, len(s)/sector) // both have the same length
		} else if over(t, now, r) != bytes.Equal(now, s) {
			t.Fatalf("%d bytes of %d", written, len(s))
		}
	}
	lifts(t, s, r, len(s)/sector)
}

// read returns the bytes of the first sectors of a disk.
func read(t *testing.T, d *disk.Disk, sectors int) []byte {
	t.Helper()
	var s []byte
	for i := range sectors {
		b, e := d.Read(i)
		if e != api.OK {
			t.Fatalf("sector %d: %d", i, e)
		}
		s = append(s, b...)
	}
	return s
}

// write writes sectors onto a disk from its beginning.
func write(t *testing.T, d *disk.Disk, s []byte) {
	t.Helper()
	for i := 0; i < len(s); i += sector {
		if e := d.Write(i/sector, s[i:i+sector]); e != api.OK {
			t.Fatalf("sector %d: %d", i/sector, e)
		}
	}
}

// P15.3: after any crash of a disk, a record that was being written is there completely, or is not accepted.
func TestCrashes(t *testing.T) {
	old, r := record{7, 8, sample(1, 60)}, record{7, 9, sample(2, 60)}
	for keep := range 8 {
		for torn := -1; torn < 3; torn++ {
			for written := range sector + 1 {
				d := disk.New(3)
				write(t, d, old.sectors())
				d.Flush()
				write(t, d, r.sectors())
				d.Crash(keep, torn, written)
				s := read(t, d, 3)
				whole := keep
				if torn >= 0 && written == sector {
					whole |= 1 << torn
				} else if torn >= 0 {
					whole &^= 1 << torn
				}
				switch {
				case whole == 7:
					lifts(t, s, r, 3)
				case bytes.Equal(s, old.sectors()):
					lifts(t, s, old, 3)
				default:
					refuses(t, s)
				}
			}
		}
	}
}

// P15.2, P6: sectors by chance, most of which have a length that fits and one mark.
func TestRandomSectors(t *testing.T) {
	r := rand.New(rand.NewSource(3))
	for range 20000 {
		s := sample(r.Int63(), sector*r.Intn(8)+r.Intn(2)*r.Intn(sector))
		if len(s) >= sector && r.Intn(4) > 0 {
			s[0], s[1] = 0, byte(r.Intn(200))
			for i := before; i+8 <= len(s); i += sector {
				copy(s[i:], s[before:sector])
			}
		}
		decides(t, s)
	}
	for seed := range int64(20) {
		decides(t, sample(seed, 1<<17))
	}
}

// P15.1, P15.2, P1: records by chance, and what becomes of them when a few bytes change; some changes lie behind them.
func TestRandomRecords(t *testing.T) {
	r := rand.New(rand.NewSource(4))
	counts := map[bool]int{}
	for seed := range int64(5000) {
		x := record{r.Intn(highest + 1), r.Intn(highest + 1), sample(seed, r.Intn(1+r.Intn(600)))}
		agree(t, x)
		s := append(x.sectors(), sample(seed, r.Intn(400))...)
		for range 1 + r.Intn(3) {
			s[r.Intn(len(s))] ^= 1 << r.Intn(8)
		}
		counts[decides(t, s)]++
	}
	if counts[true] < 500 || counts[false] < 500 {
		t.Errorf("too few of both: %v", counts)
	}
}

// R4: the arguments stay as they are, and so does what lies behind them.
func TestArgumentsStay(t *testing.T) {
	for n := range 60 {
		memory := append(record{n, n, sample(int64(n), 3*n)}.sectors(), sample(int64(n), 100)...)
		was := bytes.Clone(memory)
		for size := range memory {
			sheet.Lay(n, size, memory[:size])
			sheet.Lift(memory[:size])
		}
		if !bytes.Equal(memory, was) {
			t.Fatalf("%.80x was changed", was)
		}
	}
}

// fill writes into all the memory of b, its spare capacity too.
func fill(b []byte) {
	b = b[:cap(b)]
	for i := range b {
		b[i] = 0xee
	}
}

// R4: sectors and lifted bytes have memory of their own.
func TestResultsAreNew(t *testing.T) {
	for n := range 150 {
		r := record{n, n + 1, sample(int64(n), n)}
		s := r.sectors()
		given := append(bytes.Clone(r.b), "spare"...)[:n]
		first, _ := sheet.Lay(r.epoch, r.seq, given)
		second, _ := sheet.Lay(r.epoch, r.seq, given)
		fill(first)
		if !bytes.Equal(given, r.b) || string(given[:n+5][n:]) != "spare" {
			t.Fatalf("the sectors of %d bytes share their memory with these", n)
		}
		fill(given)
		if !bytes.Equal(second, s) {
			t.Fatalf("the sectors of %d bytes share their memory with those of another call, or with the bytes", n)
		}
		from := append(bytes.Clone(s), "spare"...)
		_, _, one, _, _ := sheet.Lift(from)
		_, _, two, _, _ := sheet.Lift(from)
		fill(one)
		if !bytes.Equal(from, append(bytes.Clone(s), "spare"...)) {
			t.Fatalf("the %d bytes of a record share their memory with its sectors", n)
		}
		fill(from)
		if !bytes.Equal(two, r.b) {
			t.Fatalf("the %d bytes of a record share their memory with those of another call, or with its sectors", n)
		}
	}
}

// R5: a result depends on its arguments alone, not on the calls before or on what an array held before.
func TestCallsAreIndependent(t *testing.T) {
	r := record{5, 6, sample(1, 100)}
	for n := range 300 {
		s, _ := sheet.Lay(n, n, sample(int64(n), 7*n))
		sheet.Lift(s)
		sheet.Lift(s[:len(s)/2])
		sheet.Lay(-n, n, nil)
		sheet.Count(n)
		agree(t, r)
	}
	copy(r.b, sample(2, 100))
	agree(t, r)
	s := r.sectors()
	lifts(t, s, r, len(s)/sector)
	copy(s, record{7, 8, sample(3, 100)}.sectors())
	lifts(t, s, record{7, 8, sample(3, 100)}, len(s)/sector)
}
