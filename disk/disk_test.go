package disk_test

import (
	"bytes"
	"math"
	"math/rand"
	"slices"
	"testing"

	"garderobe/api"
	"garderobe/disk"
)

// The numbers of the chapter.
const (
	size = 32   // bytes of a sector
	most = 4096 // sectors of a disk
)

// extremes are numbers that nothing has.
var extremes = []int{math.MinInt, math.MinInt + 1, math.MinInt32, -4096, -1, most, 1 << 40, math.MaxInt - 1, math.MaxInt}

// of returns a sector's bytes, all of them c.
func of(c byte) []byte {
	return bytes.Repeat([]byte{c}, size)
}

// numbered returns a sector's bytes that no other number has, and in which no two neighbours are alike.
func numbered(n int) []byte {
	b := make([]byte, size)
	for i := range b {
		b[i] = byte(n>>(8*(i%3)) + 85*i)
	}
	return b
}

// A cell is a sector of the model. Its bytes have the numbers of the Writes that they come from.
type cell struct {
	b     []byte
	from  []int
	since int
}

// A model is a disk by the sentences of the chapter, without any of its ways.
type model struct {
	now, durable []cell
	pending      []bool
	writes       int
	fuse         int // negative: none
}

func newModel(sectors int) *model {
	m := &model{fuse: -1}
	for range sectors {
		m.now = append(m.now, cell{make([]byte, size), make([]int, size), 0})
		m.durable = append(m.durable, cell{make([]byte, size), make([]int, size), 0})
		m.pending = append(m.pending, false)
	}
	return m
}

func (m *model) settle() {
	for i := range m.now {
		m.durable[i] = m.now[i]
		m.pending[i] = false
	}
}

func (m *model) write(i int, b []byte) api.Errno {
	switch {
	case i < 0 || i >= len(m.now) || len(b) != size:
		return api.ErrArg
	case m.fuse == 0:
		return api.ErrDown
	}
	m.fuse = max(m.fuse-1, -1)
	m.writes++
	m.now[i] = cell{bytes.Clone(b), slices.Repeat([]int{m.writes}, size), m.writes}
	m.pending[i] = true
	return api.OK
}

func (m *model) flush() api.Errno {
	if m.fuse == 0 {
		return api.ErrDown
	}
	m.fuse = max(m.fuse-1, -1)
	m.settle()
	return api.OK
}

func (m *model) crash(keep, torn, cut int) {
	number := 0
	for i := range m.now {
		if !m.pending[i] {
			continue
		}
		kept := number < 62 && uint64(keep)&(1<<number) != 0
		if number == torn {
			n := min(max(cut, 0), size)
			if n < size {
				m.now[i] = cell{
					slices.Concat(m.now[i].b[:n], m.durable[i].b[n:]),
					slices.Concat(m.now[i].from[:n], m.durable[i].from[n:]),
					m.durable[i].since,
				}
			}
		} else if !kept {
			m.now[i] = m.durable[i]
		}
		number++
	}
	m.settle()
	m.fuse = -1
}

func (m *model) count() int {
	n := 0
	for _, is := range m.pending {
		if is {
			n++
		}
	}
	return n
}

// same checks that a disk is as the model, in all that can be seen.
func same(t *testing.T, d *disk.Disk, m *model, what ...any) {
	t.Helper()
	if d.Size() != len(m.now) || d.Pending() != m.count() || d.Writes() != m.writes {
		t.Fatalf("%v: %d sectors, %d pending, %d writes, want %d, %d, %d", what, d.Size(), d.Pending(), d.Writes(), len(m.now), m.count(), m.writes)
	}
	for i, c := range m.now {
		is(t, d, i, c.b, c.since, what...)
		if slices.Min(c.from) < d.Since(i) {
			t.Fatalf("%v: sector %d has bytes of the Writes %v, before its Since, %d", what, i, c.from, d.Since(i))
		}
	}
}

// is checks the bytes of a sector, and its Since.
func is(t *testing.T, d *disk.Disk, i int, want []byte, since int, what ...any) {
	t.Helper()
	if b, e := d.Read(i); e != api.OK || !bytes.Equal(b, want) || d.Since(i) != since {
		t.Fatalf("%v: sector %d is %x, %d, of Write %d, want %x of Write %d", what, i, b, e, d.Since(i), want, since)
	}
}

// writes checks that a Write is done.
func writes(t *testing.T, d *disk.Disk, i int, b []byte) {
	t.Helper()
	returns(t, d.Write(i, b), api.OK, "Write", i)
}

// flushes checks that a Flush is done.
func flushes(t *testing.T, d *disk.Disk) {
	t.Helper()
	returns(t, d.Flush(), api.OK, "Flush")
}

// returns checks an error.
func returns(t *testing.T, e, want api.Errno, what ...any) {
	t.Helper()
	if e != want {
		t.Fatalf("%v returns %d, want %d", what, e, want)
	}
}

// used returns a disk of six sectors and its model. All sectors but 0 are durable with bytes of their own; then 1, 2,
// 4 and 5 are written again, not in this order, so that these are pending.
func used(t *testing.T) (*disk.Disk, *model) {
	t.Helper()
	d, m := disk.New(6), newModel(6)
	for i := 1; i < 6; i++ {
		writes(t, d, i, numbered(i))
		m.write(i, numbered(i))
	}
	flushes(t, d)
	m.flush()
	for _, i := range []int{5, 2, 4, 1} {
		writes(t, d, i, numbered(100+i))
		m.write(i, numbered(100+i))
	}
	same(t, d, m, "used")
	return d, m
}

// P14.2: the example of the chapter.
func TestExample(t *testing.T) {
	d := disk.New(4)
	a, b := numbered(1), numbered(2)
	writes(t, d, 3, a)
	writes(t, d, 1, b)
	d.Crash(1, 1, 5)
	is(t, d, 0, of(0), 0)
	is(t, d, 1, b, 2)
	is(t, d, 2, of(0), 0)
	is(t, d, 3, append(bytes.Clone(a[:5]), make([]byte, 27)...), 0)
}

// P14.1, P14.3: a new disk has its sectors, all of zero bytes, all durable.
func TestNew(t *testing.T) {
	for sectors, want := range map[int]int{
		math.MinInt: 0, -4096: 0, -2: 0, -1: 0, 0: 0, 1: 1, 2: 2, 31: 31, 32: 32, 4095: 4095, 4096: 4096,
		4097: 4096, 5000: 4096, 8192: 4096, 1 << 32: 4096, 1<<32 + 1: 4096, math.MaxInt: 4096,
	} {
		d := disk.New(sectors)
		if d == nil {
			t.Fatalf("New(%d) is nil", sectors)
		}
		same(t, d, newModel(want), "New", sectors)
		d.Crash(0, -1, 0)
		same(t, d, newModel(want), "New, then Crash", sectors)
	}
}

// P14.1, R3: there is no sector below 0, or from the size on; what is refused changes nothing.
func TestNoSuchSector(t *testing.T) {
	for _, sectors := range []int{0, 1, 6, most} {
		d, m := disk.New(sectors), newModel(sectors)
		for i := range sectors {
			writes(t, d, i, numbered(i))
			m.write(i, numbered(i))
		}
		for _, i := range append(slices.Clone(extremes), sectors, sectors+1, sectors+size) {
			if b, e := d.Read(i); e != api.ErrArg || len(b) > 0 {
				t.Fatalf("%d sectors: Read(%d) = %x, %d", sectors, i, b, e)
			}
			returns(t, d.Write(i, of(1)), api.ErrArg, sectors, "sectors: Write", i)
			returns(t, d.Write(i, nil), api.ErrArg, sectors, "sectors: Write of nothing", i)
			if d.Since(i) != 0 {
				t.Fatalf("%d sectors: Since(%d) = %d", sectors, i, d.Since(i))
			}
		}
		same(t, d, m, sectors)
	}
}

// P14.1, R3: only 32 bytes are written, whatever is behind them; what is refused changes nothing.
func TestLengths(t *testing.T) {
	d, m := used(t)
	for n := range 4 * size {
		if n != size {
			returns(t, d.Write(3, make([]byte, n, 4*size)), api.ErrArg, "Write of bytes:", n)
			returns(t, d.Write(5, make([]byte, n)), api.ErrArg, "Write of bytes:", n)
		}
	}
	returns(t, d.Write(3, nil), api.ErrArg, "Write of nil")
	same(t, d, m)
	long := append(numbered(7), numbered(8)...)
	returns(t, d.Write(3, long), api.ErrArg, "Write of 64 bytes")
	writes(t, d, 3, long[:size])
	m.write(3, numbered(7))
	same(t, d, m)
}

// P14.1: what is read is what was written last, before and after it is durable.
func TestLastWritten(t *testing.T) {
	d, m := disk.New(most), newModel(most)
	for _, i := range []int{0, most - 1, 7, 7, 0, 8, most - 1, 7, 2048} {
		n := d.Writes() + 1
		writes(t, d, i, numbered(n))
		m.write(i, numbered(n))
		is(t, d, i, numbered(n), n)
	}
	same(t, d, m, "written")
	flushes(t, d)
	m.flush()
	same(t, d, m, "flushed")
	writes(t, d, 7, numbered(99))
	is(t, d, 7, numbered(99), 10)
	d.Crash(0, -1, 0)
	is(t, d, 7, numbered(8), 8)
}

// P14.1: each sector is pending once from its Write to the Flush, whatever was written.
func TestPending(t *testing.T) {
	d := disk.New(5)
	counts := func(want int) {
		t.Helper()
		if d.Pending() != want {
			t.Fatalf("%d sectors are pending, want %d", d.Pending(), want)
		}
	}
	counts(0)
	writes(t, d, 3, of(0))
	counts(1)
	writes(t, d, 3, of(1))
	counts(1)
	writes(t, d, 0, of(1))
	counts(2)
	writes(t, d, 4, of(1))
	writes(t, d, 3, of(1))
	counts(3)
	flushes(t, d)
	counts(0)
	flushes(t, d)
	counts(0)
	writes(t, d, 3, of(1))
	counts(1)
	d.Crash(1, -1, 0)
	counts(0)
}

// P14.1, P14.2: a Flush makes all sectors durable, so that no crash loses or tears them.
func TestFlush(t *testing.T) {
	for keep := range 16 {
		for torn := -1; torn < 5; torn++ {
			d, m := used(t)
			flushes(t, d)
			m.flush()
			d.Crash(keep, torn, 5)
			same(t, d, m, keep, torn)
		}
	}
}

// P14.1, P14.2: after many Writes a Flush makes them all durable.
func TestFlushMany(t *testing.T) {
	d, m := disk.New(most), newModel(most)
	for i := range most {
		writes(t, d, i, numbered(i))
		m.write(i, numbered(i))
	}
	if d.Pending() != most {
		t.Fatalf("%d sectors are pending", d.Pending())
	}
	flushes(t, d)
	m.flush()
	d.Crash(0, 5, 5)
	same(t, d, m)
}

// P14.2: so many Writes and Flushes are successful, in whatever order, and none after these.
func TestFuse(t *testing.T) {
	const ops = 7
	for n := range ops {
		for order := range 1 << ops {
			d, m := disk.New(ops), newModel(ops)
			d.Fuse(n)
			for i := range ops {
				want := api.OK
				if i >= n {
					want = api.ErrDown
				}
				if order>>i&1 == 1 {
					returns(t, d.Flush(), want, "fuse", n, "order", order, "Flush", i)
				} else {
					returns(t, d.Write(i, of(byte(i+1))), want, "fuse", n, "order", order, "Write", i)
				}
				if want == api.OK && order>>i&1 == 1 {
					m.flush()
				} else if want == api.OK {
					m.write(i, of(byte(i+1)))
				}
			}
			same(t, d, m, "fuse", n, "order", order)
		}
	}
}

// P14.2: Writes that are refused for their arguments, and all that isn't a Write or a Flush, are not counted.
func TestNotCounted(t *testing.T) {
	d := disk.New(3)
	d.Fuse(3)
	for i := range 3 {
		for range 5 {
			returns(t, d.Write(3, of(1)), api.ErrArg, "Write behind the end")
			returns(t, d.Write(-1, of(1)), api.ErrArg, "Write before the beginning")
			returns(t, d.Write(0, of(1)[1:]), api.ErrArg, "Write of 31 bytes")
			d.Read(0)
			d.Read(3)
			d.Since(0)
			d.Size()
			d.Pending()
			d.Writes()
		}
		writes(t, d, i, of(1))
	}
	returns(t, d.Write(0, of(1)), api.ErrDown, "Write without power")
}

// P14.1, P14.2, R2, R3: without power nothing is written or flushed, but all can be read; wrong arguments are named first.
func TestWithoutPower(t *testing.T) {
	d, m := used(t)
	d.Fuse(0)
	for range 3 {
		returns(t, d.Write(1, of(9)), api.ErrDown, "Write without power")
		returns(t, d.Write(0, of(9)), api.ErrDown, "Write without power")
		returns(t, d.Flush(), api.ErrDown, "Flush without power")
		returns(t, d.Write(6, of(9)), api.ErrArg, "Write behind the end")
		returns(t, d.Write(-1, of(9)), api.ErrArg, "Write before the beginning")
		returns(t, d.Write(1, of(9)[1:]), api.ErrArg, "Write of 31 bytes")
		returns(t, d.Write(1, append(of(9), 9)), api.ErrArg, "Write of 33 bytes")
		returns(t, d.Write(1, nil), api.ErrArg, "Write of nil")
		if b, e := d.Read(6); e != api.ErrArg || len(b) > 0 {
			t.Fatalf("Read behind the end: %x, %d", b, e)
		}
		same(t, d, m, "without power")
	}
	m.crash(0, -1, 0)
	d.Crash(0, -1, 0)
	same(t, d, m, "after it")
}

// P14.2: another Fuse takes the place of the one before, whether that has burnt or not.
func TestFuseAgain(t *testing.T) {
	for first := range 4 {
		for second := range 4 {
			d := disk.New(1)
			d.Fuse(first)
			for i := range 2 {
				want := api.OK
				if i >= first {
					want = api.ErrDown
				}
				returns(t, d.Write(0, of(1)), want, first, second, "Write", i)
			}
			d.Fuse(second)
			for i := range 5 {
				want := api.OK
				if i >= second {
					want = api.ErrDown
				}
				returns(t, d.Flush(), want, first, second, "Flush", i)
			}
		}
	}
}

// P14.2: with a negative number the power doesn't fail, and has not failed.
func TestNoFuse(t *testing.T) {
	for _, n := range []int{-1, -2, -9, -4096, math.MinInt32, math.MinInt + 1, math.MinInt} {
		for _, before := range []int{-1, 0, 1, 2, 3} {
			d := disk.New(2)
			d.Fuse(before)
			d.Write(0, of(1))
			d.Flush()
			d.Fuse(n)
			for i := range 300 {
				returns(t, d.Write(1, of(byte(i))), api.OK, "fuses", before, n, "Write", i)
				returns(t, d.Flush(), api.OK, "fuses", before, n, "Flush", i)
			}
		}
	}
}

// P14.2, R1: a fuse may be for more than there will ever be.
func TestGreatFuse(t *testing.T) {
	for _, n := range []int{1000, 1 << 31, 1 << 32, math.MaxInt - 1, math.MaxInt} {
		d := disk.New(1)
		d.Fuse(n)
		for i := range 1000 {
			returns(t, d.Write(0, of(byte(i))), api.OK, "fuse", n, "Write", i)
		}
		want := api.OK
		if n == 1000 {
			want = api.ErrDown
		}
		returns(t, d.Flush(), want, "fuse", n, "Flush")
	}
}

// P14.2: after a Crash the power doesn't fail any more, whether it had failed or not.
func TestCrashBringsPower(t *testing.T) {
	for n := -1; n < 5; n++ {
		d := disk.New(2)
		d.Fuse(n)
		for range 3 {
			d.Write(0, of(1))
		}
		d.Crash(1, -1, 0)
		for i := range 300 {
			returns(t, d.Write(1, of(byte(i))), api.OK, "fuse", n, "Write", i)
			returns(t, d.Flush(), api.OK, "fuse", n, "Flush", i)
		}
		d.Fuse(1)
		writes(t, d, 1, of(1))
		returns(t, d.Write(1, of(1)), api.ErrDown, "Write without power")
	}
}

// P14.2, P14.3: every choice of what four pending sectors come to, by every cut.
func TestAllCrashes(t *testing.T) {
	for keep := range 32 {
		for torn := -2; torn < 6; torn++ {
			for cut := -2; cut < size+3; cut++ {
				d, m := used(t)
				d.Crash(keep, torn, cut)
				m.crash(keep, torn, cut)
				same(t, d, m, "Crash", keep, torn, cut)
				// All are durable now.
				d.Crash(0, 0, 0)
				same(t, d, m, "Crash", keep, torn, cut, "and another one")
			}
		}
	}
}

// P14.2: the torn sector has its number among the pending ones, by the sector numbers, not by the order of the Writes.
func TestKnownCrash(t *testing.T) {
	d, _ := used(t)
	d.Crash(0b0101, 1, 3) // 1 and 4 remain, 2 is torn, 5 is lost
	is(t, d, 0, of(0), 0)
	is(t, d, 1, numbered(101), 9)
	is(t, d, 2, append(numbered(102)[:3], numbered(2)[3:]...), 2)
	is(t, d, 3, numbered(3), 3)
	is(t, d, 4, numbered(104), 8)
	is(t, d, 5, numbered(5), 5)
	if d.Pending() != 0 || d.Writes() != 9 {
		t.Fatalf("%d pending, %d writes", d.Pending(), d.Writes())
	}
}

// P14.2: the torn sector is torn whether keep would have kept it or not.
func TestTornWhateverKept(t *testing.T) {
	for _, keep := range []int{0, 1, -1, math.MinInt, math.MaxInt} {
		d := disk.New(1)
		writes(t, d, 0, of(1))
		d.Crash(keep, 0, 9)
		is(t, d, 0, append(of(1)[:9], of(0)[9:]...), 0, keep)
	}
}

// P14.2: of many pending sectors, only the numbers 0 to 61 can be kept, each by its own bit.
func TestKeepBits(t *testing.T) {
	const sectors = 140
	for bit := range 64 {
		for _, keep := range []int{1 << bit, ^(1 << bit)} {
			d, m := disk.New(sectors), newModel(sectors)
			for i := range sectors / 2 {
				writes(t, d, 2*i+1, of(byte(i+1)))
				m.write(2*i+1, of(byte(i+1)))
			}
			d.Crash(keep, -1, 0)
			m.crash(keep, -1, 0)
			same(t, d, m, "bit", bit, "keep", keep)
			for number := range sectors / 2 {
				kept := number < 62 && (number == bit) == (keep == 1<<bit)
				if (d.Since(2*number+1) > 0) != kept {
					t.Fatalf("keep %x: number %d has Since %d", keep, number, d.Since(2*number+1))
				}
			}
		}
	}
}

// P14.2: every number can be torn, those from 62 on too.
func TestTornNumbers(t *testing.T) {
	const sectors = 70
	for torn := range sectors + 2 {
		for _, cut := range []int{0, 1, 31, 32} {
			d, m := disk.New(sectors), newModel(sectors)
			for i := range sectors {
				writes(t, d, i, numbered(i))
				m.write(i, numbered(i))
			}
			d.Crash(0, torn, cut)
			m.crash(0, torn, cut)
			same(t, d, m, "torn", torn, cut)
		}
	}
	d := disk.New(most)
	for i := range most {
		writes(t, d, i, of(1))
	}
	d.Crash(-1, most-1, 31)
	is(t, d, 61, of(1), 62)
	is(t, d, 62, of(0), 0)
	is(t, d, most-2, of(0), 0)
	is(t, d, most-1, append(of(1)[:31], 0), 0)
}

// P14.2, R1: a Crash takes every number, also one that no sector has.
func TestExtremeCrashes(t *testing.T) {
	numbers := append(slices.Clone(extremes), 0, 1, 31, 32, 62, 63, 64)
	for _, keep := range numbers {
		for _, torn := range numbers {
			for _, cut := range numbers {
				d, m := used(t)
				d.Crash(keep, torn, cut)
				m.crash(keep, torn, cut)
				same(t, d, m, "Crash", keep, torn, cut)
			}
		}
	}
}

// P14.2: if nothing is pending, a Crash changes no sector.
func TestCrashOfNothing(t *testing.T) {
	d, m := used(t)
	flushes(t, d)
	m.flush()
	d.Fuse(0)
	d.Crash(-1, 0, 7)
	same(t, d, m)
	writes(t, d, 0, of(1))
}

// P14.2: what a Crash left is the durable state that the next one comes back to.
func TestCrashAgain(t *testing.T) {
	d := disk.New(2)
	writes(t, d, 1, of(1))
	d.Crash(0, 0, 20)
	writes(t, d, 1, of(2))
	d.Crash(0, 0, 10)
	three := slices.Concat(of(2)[:10], of(1)[10:20], of(0)[20:])
	is(t, d, 1, three, 0)
	writes(t, d, 1, of(3))
	is(t, d, 1, of(3), 3)
	d.Crash(2, -1, 0)
	is(t, d, 1, three, 0)
	writes(t, d, 1, of(4))
	d.Crash(1, -1, 0)
	is(t, d, 1, of(4), 4)
	writes(t, d, 1, of(5))
	d.Crash(1, 0, 31)
	is(t, d, 1, append(of(5)[:31], 4), 4)
}

// P14.2, P14.3: a sector that was written more than once since it was durable goes back behind all of that.
func TestWrittenTwice(t *testing.T) {
	d := disk.New(1)
	writes(t, d, 0, of(1))
	flushes(t, d)
	writes(t, d, 0, of(2))
	writes(t, d, 0, of(3))
	d.Crash(0, 0, 4)
	is(t, d, 0, append(of(3)[:4], of(1)[4:]...), 1)
	writes(t, d, 0, of(4))
	writes(t, d, 0, of(5))
	d.Crash(0, -1, 0)
	is(t, d, 0, append(of(3)[:4], of(1)[4:]...), 1)
}

// P14.3: all successful Writes are counted, and nothing else; no Flush, Fuse or Crash begins again.
func TestWrites(t *testing.T) {
	d := disk.New(3)
	counts := func(want int) {
		t.Helper()
		if d.Writes() != want {
			t.Fatalf("%d writes, want %d", d.Writes(), want)
		}
	}
	counts(0)
	writes(t, d, 2, of(1))
	writes(t, d, 2, of(1))
	counts(2)
	d.Write(3, of(1))
	d.Write(2, nil)
	flushes(t, d)
	counts(2)
	d.Fuse(1)
	writes(t, d, 0, of(1))
	d.Write(0, of(1))
	d.Flush()
	counts(3)
	d.Crash(0, -1, 0)
	counts(3)
	writes(t, d, 0, of(1))
	counts(4)
	is(t, d, 0, of(1), 4)
	d.Fuse(-1)
	counts(4)
}

// P14.3: the number is that of the Write, also if it wrote what was there, or zero bytes.
func TestSinceSameContent(t *testing.T) {
	d := disk.New(3)
	writes(t, d, 1, of(0))
	is(t, d, 1, of(0), 1)
	flushes(t, d)
	is(t, d, 1, of(0), 1)
	writes(t, d, 1, of(0))
	is(t, d, 1, of(0), 2)
	d.Crash(0, 0, 31)
	is(t, d, 1, of(0), 1)
	writes(t, d, 1, of(0))
	d.Crash(0, 0, 32)
	is(t, d, 1, of(0), 3)
	is(t, d, 0, of(0), 0)
	is(t, d, 2, of(0), 0)
}

// P14.3: a torn sector has the number of its durable state, unless all of it was written.
func TestSinceTorn(t *testing.T) {
	for cut := -1; cut < size+2; cut++ {
		d := disk.New(4)
		writes(t, d, 0, of(1))
		writes(t, d, 3, of(2))
		flushes(t, d)
		writes(t, d, 2, of(3))
		writes(t, d, 3, of(4))
		d.Crash(0, 1, cut)
		want := 2
		if cut >= size {
			want = 4
		}
		n := min(max(cut, 0), size)
		is(t, d, 0, of(1), 1, "cut", cut)
		is(t, d, 2, of(0), 0, "cut", cut)
		is(t, d, 3, append(of(4)[:n], of(2)[n:]...), want, "cut", cut)
	}
}

// both is a disk and its model.
type both struct {
	d *disk.Disk
	m *model
}

// write, flush, fuse and crash act on both, and check that they agree.
func (x both) write(t *testing.T, i int, b []byte) {
	t.Helper()
	returns(t, x.d.Write(i, b), x.m.write(i, b), "Write", i, b)
}

func (x both) flush(t *testing.T) {
	t.Helper()
	returns(t, x.d.Flush(), x.m.flush(), "Flush")
}

func (x both) fuse(n int) {
	x.d.Fuse(n)
	x.m.fuse = n
}

func (x both) crash(keep, torn, cut int) {
	x.d.Crash(keep, torn, cut)
	x.m.crash(keep, torn, cut)
}

// step takes the step of a number, of which there are nine.
func (x both) step(t *testing.T, number int) {
	t.Helper()
	n := numbered(1000 * (x.d.Writes() + 1))
	switch number {
	case 0, 1:
		x.write(t, number, n)
	case 2:
		x.flush(t)
	case 3:
		x.fuse(1)
	case 4:
		x.crash(1, -1, 0)
	case 5:
		x.crash(0, 1, 7)
	case 6:
		x.crash(2, 0, 32)
	case 7:
		x.write(t, 2, n)
	case 8:
		x.fuse(-1)
	}
}

// P14.1, P14.2, P14.3: all runs of five steps on a disk of two sectors.
func TestAllRuns(t *testing.T) {
	const steps, length = 9, 5
	for run := range steps * steps * steps * steps * steps {
		x := both{disk.New(2), newModel(2)}
		rest := run
		for range length {
			x.step(t, rest%steps)
			same(t, x.d, x.m, "run", run)
			rest /= steps
		}
	}
}

// P14.1, P14.2, P14.3: long runs of everything, with wrong arguments among them.
func TestRandomRuns(t *testing.T) {
	for seed := range 300 {
		r := rand.New(rand.NewSource(int64(seed)))
		sectors := []int{0, 1, 2, 3, 8, 40, 80}[r.Intn(7)]
		x := both{disk.New(sectors), newModel(sectors)}
		for step := range 400 {
			switch r.Intn(20) {
			case 0:
				x.crash(int(r.Uint64()), r.Intn(sectors+3)-1, r.Intn(size+8)-4)
			case 1:
				x.fuse(r.Intn(40) - 4)
			case 2:
				x.flush(t)
			case 3:
				x.write(t, r.Intn(sectors+4)-2, make([]byte, size-2+r.Intn(4)))
			default:
				b := make([]byte, size)
				r.Read(b)
				x.write(t, r.Intn(sectors+1), b)
			}
			same(t, x.d, x.m, "seed", seed, "step", step)
		}
	}
}

// Chapter 14, R1, R3: every method of nil returns ErrArg or 0, or does nothing.
func TestNil(t *testing.T) {
	var d *disk.Disk
	for range 2 {
		for _, i := range append(slices.Clone(extremes), 0, 1) {
			if b, e := d.Read(i); e != api.ErrArg || len(b) > 0 {
				t.Fatalf("Read(%d) of nil = %x, %d", i, b, e)
			}
			returns(t, d.Write(i, of(1)), api.ErrArg, "Write to nil")
			returns(t, d.Write(i, nil), api.ErrArg, "Write to nil")
			if d.Since(i) != 0 {
				t.Fatalf("Since(%d) of nil = %d", i, d.Since(i))
			}
			d.Fuse(i)
			d.Crash(i, i, i)
			d.Crash(-1, 0, i)
		}
		returns(t, d.Flush(), api.ErrArg, "Flush of nil")
		if d.Size() != 0 || d.Pending() != 0 || d.Writes() != 0 {
			t.Fatalf("nil has %d sectors, %d pending, %d writes", d.Size(), d.Pending(), d.Writes())
		}
	}
}

// R1: a disk that isn't from New has no sectors.
func TestZeroDisk(t *testing.T) {
	d := new(disk.Disk)
	same(t, d, newModel(0))
	returns(t, d.Write(0, of(1)), api.ErrArg, "Write")
	flushes(t, d)
	d.Crash(-1, 0, 1)
	d.Fuse(0)
	returns(t, d.Flush(), api.ErrDown, "Flush without power")
	same(t, d, newModel(0))
}

// R4: a Write leaves its argument as it is, the spare capacity too, and does not keep it.
func TestArgumentStays(t *testing.T) {
	whole := slices.Concat(of(8), numbered(1), of(9))
	before := bytes.Clone(whole)
	d := disk.New(2)
	writes(t, d, 1, whole[size:2*size])
	d.Write(1, whole[size:2*size-1])
	d.Write(2, whole[size:2*size])
	flushes(t, d)
	writes(t, d, 0, whole[size:2*size])
	d.Crash(0, 0, 5)
	if !bytes.Equal(whole, before) {
		t.Fatalf("the argument became %x", whole)
	}
	// Nor do the sectors follow the argument when that changes, whether they are durable or pending.
	writes(t, d, 0, whole[size:2*size])
	for i := range whole {
		whole[i]++
	}
	is(t, d, 0, numbered(1), 3)
	is(t, d, 1, numbered(1), 1)
	flushes(t, d)
	is(t, d, 0, numbered(1), 3)
}

// R4: what Read returns shares no memory with the disk or with other results, its spare capacity neither.
func TestResultsAreNew(t *testing.T) {
	d, m := used(t)
	var results [][]byte
	for range 2 {
		for i := range 6 {
			b, _ := d.Read(i)
			results = append(results, b)
		}
	}
	for _, b := range results {
		b = b[:cap(b)]
		for i := range b {
			b[i] ^= 0xa5
		}
	}
	same(t, d, m, "pending")
	for n, b := range results {
		for i, c := range m.now[n%6].b {
			if b[i] != c^0xa5 {
				t.Fatalf("result %d shares memory with another one", n)
			}
		}
	}
	kept, _ := d.Read(1)
	before := bytes.Clone(kept)
	writes(t, d, 1, of(77))
	flushes(t, d)
	d.Crash(0, 0, 0)
	if !bytes.Equal(kept, before) {
		t.Fatal("a result changed when its sector was written")
	}
}

// R4: nil and no bytes are the same to Write.
func TestEmptyArgument(t *testing.T) {
	d := disk.New(1)
	returns(t, d.Write(0, nil), api.ErrArg, "Write of nil")
	returns(t, d.Write(0, []byte{}), api.ErrArg, "Write of no bytes")
	returns(t, d.Write(0, make([]byte, 0, size)), api.ErrArg, "Write of no bytes, with room behind them")
}

// R5: what happens to one disk changes no other one, and the same calls return the same.
func TestDisksAreApart(t *testing.T) {
	first, m := used(t)
	second := disk.New(6)
	same(t, second, newModel(6), "a new disk beside another one")
	second.Fuse(0)
	writes(t, first, 0, of(5))
	m.write(0, of(5))
	second.Crash(0, 0, 0)
	same(t, first, m, "a disk beside one that crashed")
	first.Fuse(0)
	writes(t, second, 3, of(6))
	same(t, first, m, "a disk beside one that was written")
	again, n := used(t)
	same(t, again, n, "the same calls")
}
