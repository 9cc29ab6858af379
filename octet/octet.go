// Package octet encodes numbers and strings as bytes, and reads them back.
package octet

import "garderobe/api"

// The bytes that a number takes, and those of a string's length.
const (
	numberSize = 8
	lengthSize = 2
)

// Int returns b followed by the encoding of n.
func Int(b []byte, n int) []byte {
	return number(extended(b, numberSize), uint64(n), numberSize)
}

// Text returns b followed by the encoding of s, or ErrOver if s is too long for its length to fit.
func Text(b []byte, s string) ([]byte, api.Errno) {
	if len(s) > api.MaxRec {
		return nil, api.ErrOver
	}
	out := number(extended(b, lengthSize+len(s)), uint64(len(s)), lengthSize)
	return append(out, s...), api.OK
}

// extended copies b with room for more bytes: appending to b itself could write into the caller's spare capacity.
func extended(b []byte, more int) []byte {
	out := make([]byte, len(b), len(b)+more)
	copy(out, b)
	return out
}

// number appends the low bytes of n, as many as size says, most significant first.
func number(b []byte, n uint64, size int) []byte {
	for i := range size {
		b = append(b, byte(n>>(8*(size-1-i))))
	}
	return b
}

// Reader reads encoded numbers and strings one after the other. Once something did not fit, it stays invalid.
type Reader struct {
	data    []byte
	at      int
	invalid bool
}

// New returns a Reader of a copy of b, so that the caller may go on changing b.
func New(b []byte) *Reader {
	return &Reader{data: extended(b, 0)}
}

// Int returns the next number, or 0.
func (r *Reader) Int() int {
	return int(r.number(numberSize))
}

// Text returns the next string if it has at most most bytes, or "".
func (r *Reader) Text(most int) string {
	n := int(r.number(lengthSize))
	// A length that could not be read is 0, which would pass for that of an empty string; take refuses then too.
	if n > most {
		r.fail()
		return ""
	}
	return string(r.take(n))
}

// Left returns how many bytes remain to be read.
func (r *Reader) Left() int {
	if !r.valid() {
		return 0
	}
	return len(r.data) - r.at
}

// End reports whether everything was read and nothing was wrong.
func (r *Reader) End() bool {
	return r.valid() && r.at == len(r.data)
}

func (r *Reader) valid() bool {
	return r != nil && !r.invalid
}

func (r *Reader) fail() {
	if r != nil {
		r.invalid = true
	}
}

// take returns the next n bytes and advances; if fewer remain, it invalidates the Reader.
func (r *Reader) take(n int) []byte {
	if !r.valid() {
		return nil
	}
	if n > len(r.data)-r.at {
		r.fail()
		return nil
	}
	from := r.at
	r.at += n
	return r.data[from:r.at]
}

// number takes size bytes as an unsigned number, most significant first; it is 0 if they are not there.
func (r *Reader) number(size int) uint64 {
	var n uint64
	for _, c := range r.take(size) {
		n = n<<8 | uint64(c)
	}
	return n
}
