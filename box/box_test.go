package box_test

import (
	"crypto/aes"
	"testing"

	"garderobe/box"
)

// divided returns the product as the document defines it: all coefficients of the
// product first, then the remainder of the division by x^8 + x^4 + x^3 + x + 1.
func divided(a, b byte) byte {
	product := 0
	for i := range 8 {
		for j := range 8 {
			product ^= int(a>>i&1) * int(b>>j&1) << (i + j)
		}
	}
	for power := 14; power >= 8; power-- {
		if product>>power&1 == 1 {
			product ^= 0x11b << (power - 8)
		}
	}
	return byte(product)
}

// P3.1: known products, those of the document and of FIPS 197 among them.
func TestMulKnown(t *testing.T) {
	cases := []struct{ a, b, want byte }{
		{0x57, 0x83, 0xc1},
		{0x57, 0x13, 0xfe},
		{0x57, 0x02, 0xae},
		{0x57, 0x04, 0x47},
		{0x57, 0x08, 0x8e},
		{0x57, 0x10, 0x07},
		{0x02, 0x80, 0x1b},
		{0x80, 0x80, 0x9a},
		{0xff, 0xff, 0x13},
		{0x53, 0xca, 0x01},
		{0x03, 0xf6, 0x01},
		{0x02, 0x8d, 0x01},
		{0x00, 0xff, 0x00},
		{0x00, 0x00, 0x00},
		{0x01, 0xff, 0xff},
	}
	for _, c := range cases {
		if got := box.Mul(c.a, c.b); got != c.want {
			t.Errorf("Mul(%#x, %#x) = %#x, want %#x", c.a, c.b, got, c.want)
		}
		if got := box.Mul(c.b, c.a); got != c.want {
			t.Errorf("Mul(%#x, %#x) = %#x, want %#x", c.b, c.a, got, c.want)
		}
	}
}

// P3.1: every product, against the division of polynomials.
func TestMulAll(t *testing.T) {
	for a := range 256 {
		for b := range 256 {
			if got, want := box.Mul(byte(a), byte(b)), divided(byte(a), byte(b)); got != want {
				t.Fatalf("Mul(%#x, %#x) = %#x, want %#x", a, b, got, want)
			}
		}
	}
}

// P3.1: the inverse of every byte, found by trying all of them, and 0 for 0.
func TestInv(t *testing.T) {
	if got := box.Inv(0); got != 0 {
		t.Errorf("Inv(0) = %#x", got)
	}
	for a := 1; a < 256; a++ {
		var found []byte
		for b := range 256 {
			if divided(byte(a), byte(b)) == 1 {
				found = append(found, byte(b))
			}
		}
		if got := box.Inv(byte(a)); len(found) != 1 || got != found[0] {
			t.Errorf("Inv(%#x) = %#x, want %#x", a, got, found)
		}
	}
}

func TestInvKnown(t *testing.T) {
	for _, c := range [][2]byte{{1, 1}, {2, 0x8d}, {3, 0xf6}, {0x53, 0xca}, {0xff, 0x1c}} {
		if box.Inv(c[0]) != c[1] || box.Inv(c[1]) != c[0] {
			t.Errorf("Inv(%#x) = %#x, Inv(%#x) = %#x", c[0], box.Inv(c[0]), c[1], box.Inv(c[1]))
		}
	}
}

// P3.1: known values of the table, those of the document among them.
func TestTablesKnown(t *testing.T) {
	there, back := box.Tables()
	cases := []struct{ a, want byte }{
		{0x00, 0x63}, {0x01, 0x7c}, {0x02, 0x77}, {0x0f, 0x76}, {0x10, 0xca},
		{0x52, 0x00}, {0x53, 0xed}, {0x7f, 0xd2}, {0x80, 0xcd}, {0x9a, 0xb8},
		{0xf0, 0x8c}, {0xfe, 0xbb}, {0xff, 0x16},
	}
	for _, c := range cases {
		if there[c.a] != c.want {
			t.Errorf("there[%#x] = %#x, want %#x", c.a, there[c.a], c.want)
		}
		if back[c.want] != c.a {
			t.Errorf("back[%#x] = %#x, want %#x", c.want, back[c.want], c.a)
		}
	}
}

// P3.1: every value of there, bit by bit, and back at each of them.
func TestTablesAll(t *testing.T) {
	there, back := box.Tables()
	var reached [256]bool
	for a := range 256 {
		c := box.Inv(byte(a))
		var want byte
		for i := range 8 {
			bit := c>>i ^ c>>((i+4)%8) ^ c>>((i+5)%8) ^ c>>((i+6)%8) ^ c>>((i+7)%8) ^ 0x63>>i
			want |= bit & 1 << i
		}
		if there[a] != want {
			t.Errorf("there[%#x] = %#x, want %#x", a, there[a], want)
		}
		if back[there[a]] != byte(a) {
			t.Errorf("back[there[%#x]] = %#x", a, back[there[a]])
		}
		reached[there[a]] = true
	}
	for b, ok := range reached {
		if !ok {
			t.Errorf("nothing stands in there for %#x", b)
		}
	}
}

// P3.1: the tables are those of the library's AES, whose last round shows each
// value: with a key of zeros the round keys are known from the tables alone.
func TestTablesAgainstLibrary(t *testing.T) {
	there, _ := box.Tables()
	cipher, err := aes.NewCipher(make([]byte, 16))
	if err != nil {
		t.Fatal(err)
	}
	for a := range 256 {
		block := [16]byte{byte(a), 1, 2, 3, byte(255 - a)}
		var want [16]byte
		cipher.Encrypt(want[:], block[:])
		if got := encryptZeroKey(there, block); got != want {
			t.Fatalf("block %x becomes %x, want %x", block, got, want)
		}
	}
}

// encryptZeroKey is AES-128 with a key of zeros, by the given table.
func encryptZeroKey(there [256]byte, block [16]byte) [16]byte {
	var key [16]byte
	power := byte(1)
	for round := 1; round <= 10; round++ {
		next := key
		for i, from := range []int{13, 14, 15, 12} {
			next[i] ^= there[key[from]]
		}
		next[0] ^= power
		for i := 4; i < 16; i++ {
			next[i] ^= next[i-4]
		}
		key, power = next, box.Mul(power, 2)
		block = oneRound(there, block, round == 10)
		for i := range block {
			block[i] ^= key[i]
		}
	}
	return block
}

func oneRound(there [256]byte, block [16]byte, last bool) [16]byte {
	var moved, mixed [16]byte
	for i := range moved {
		moved[i] = there[block[(i+i%4*4)%16]]
	}
	if last {
		return moved
	}
	for i := range mixed {
		column := i / 4 * 4
		for j := range 4 {
			factor := [4]byte{2, 3, 1, 1}[(j-i%4+4)%4]
			mixed[i] ^= box.Mul(factor, moved[column+j])
		}
	}
	return mixed
}

// R4 and R5: tables are values of their caller, and later calls have the same results.
func TestTablesAreFresh(t *testing.T) {
	there, back := box.Tables()
	firstThere, firstBack := there, back
	clear(there[:])
	clear(back[:])
	againThere, againBack := box.Tables()
	if againThere != firstThere || againBack != firstBack {
		t.Error("a second call has another result")
	}
	if box.Mul(0x57, 0x83) != 0xc1 || box.Inv(0x53) != 0xca {
		t.Error("a changed table changes the arithmetic")
	}
}
