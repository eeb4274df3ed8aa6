package opts_test

import (
	"bytes"
	"math/rand"
	"testing"

	"portreeve/opts"
)

// someNumbers are numbers whose bytes stand apart, the edges, and drawn ones.
func someNumbers() []uint32 {
	out := []uint32{0, 1, 2, 127, 128, 255, 256, 257, 1500, 65535, 65536, 1<<24 - 1, 1 << 24, 1<<31 - 1, 1 << 31, 1<<31 + 1, 1<<32 - 2, 1<<32 - 1, 0x01020304, 0xFF000102, 167772161}
	for bit := range 32 {
		out = append(out, 1<<bit, ^uint32(1<<bit))
	}
	r := rand.New(rand.NewSource(4))
	for range 1000 {
		out = append(out, r.Uint32())
	}
	return out
}

// P10.3: numbers by hand, of fewer than four bytes, of four, and of more.
func TestNumberKnown(t *testing.T) {
	for _, k := range []struct {
		b []byte
		n uint32
	}{
		{nil, 0}, {[]byte{}, 0}, {[]byte{0}, 0}, {[]byte{1}, 1}, {[]byte{255}, 255}, {[]byte{5, 220}, 1500}, {[]byte{0, 7}, 7}, {[]byte{1, 0}, 256}, {[]byte{255, 255}, 65535},
		{[]byte{1, 0, 0}, 65536}, {[]byte{1, 2, 3}, 0x010203}, {[]byte{255, 255, 255}, 1<<24 - 1}, {[]byte{10, 0, 0, 1}, 167772161}, {[]byte{1, 2, 3, 4}, 0x01020304},
		{[]byte{0, 0, 0, 0}, 0}, {[]byte{128, 0, 0, 0}, 1 << 31}, {[]byte{255, 255, 255, 255}, 1<<32 - 1}, {[]byte{0, 0, 0, 9}, 9},
		{[]byte{9, 0, 0, 1, 0}, 256}, {[]byte{255, 0, 0, 0, 0}, 0}, {[]byte{1, 2, 3, 4, 5}, 0x02030405}, {[]byte{1, 2, 3, 4, 5, 6, 7, 8}, 0x05060708},
		{[]byte{1, 2, 3, 4, 5, 6, 7, 8, 9}, 0x06070809}, {append(bytes.Repeat([]byte{255}, 1000), 0, 0, 0, 3), 3}, {bytes.Repeat([]byte{255}, 1000), 1<<32 - 1},
	} {
		if n := opts.Number(k.b); n != k.n {
			t.Errorf("Number(%v) = %#x, not %#x", k.b, n, k.n)
		}
	}
}

// P10.3: all numbers of one byte and of two, the highest first.
func TestNumberShort(t *testing.T) {
	for a := range 256 {
		if n := opts.Number([]byte{byte(a)}); n != uint32(a) {
			t.Fatalf("%d: %d", a, n)
		}
		for b := range 256 {
			if n := opts.Number([]byte{byte(a), byte(b)}); n != uint32(a*256+b) {
				t.Fatalf("%d, %d: %d", a, b, n)
			}
		}
	}
}

// P10.3: of more than four bytes the last four count, of all lengths.
func TestNumberLong(t *testing.T) {
	for n := 4; n < 300; n++ {
		b := drawn(n)
		if got := opts.Number(b); got != opts.Number(b[n-4:]) {
			t.Fatalf("%d bytes: %#x", n, got)
		}
	}
}

// P10.3: the four bytes of numbers, by hand and by division.
func TestFour(t *testing.T) {
	for n, want := range map[uint32]string{
		0: "\x00\x00\x00\x00", 1: "\x00\x00\x00\x01", 1500: "\x00\x00\x05\xdc", 0xFF000102: "\xff\x00\x01\x02", 0x01020304: "\x01\x02\x03\x04", 167772167: "\x0a\x00\x00\x07", 1<<32 - 1: "\xff\xff\xff\xff",
	} {
		if b := opts.Four(n); string(b) != want {
			t.Errorf("Four(%#x) = %v", n, b)
		}
	}
	for _, n := range someNumbers() {
		if b := opts.Four(n); !bytes.Equal(b, []byte{byte(n / 16777216), byte(n / 65536 % 256), byte(n / 256 % 256), byte(n % 256)}) {
			t.Errorf("Four(%#x) = %v", n, b)
		}
	}
}

// P10.3, P10.4: a number is its four bytes', and they are its.
func TestFourThenNumber(t *testing.T) {
	for _, n := range someNumbers() {
		if got := opts.Number(opts.Four(n)); got != n {
			t.Errorf("%#x: %#x", n, got)
		}
		if got := opts.Number(append([]byte{1, 255, 0}, opts.Four(n)...)); got != n {
			t.Errorf("%#x behind others: %#x", n, got)
		}
		b := []byte{byte(n >> 1), byte(n >> 9), byte(n >> 17), byte(n >> 23)}
		if got := opts.Four(opts.Number(b)); !bytes.Equal(got, b) {
			t.Errorf("%v: %v", b, got)
		}
	}
}
