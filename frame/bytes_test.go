package frame_test

import (
	"bytes"
	"testing"

	"portreeve/api"
	"portreeve/frame"
)

// P8.1: numbers by hand: the edges of one byte, of two, and 255.
func TestProtoKnown(t *testing.T) {
	for _, p := range append(protos(), 0x00FD, 0x00F9, 0x80FD) {
		if !frame.Proto(p) {
			t.Errorf("%#x may not be", p)
		}
	}
	for _, p := range noProtos() {
		if frame.Proto(p) {
			t.Errorf("%#x may be", p)
		}
	}
}

// P8.1: all numbers.
func TestProtoAll(t *testing.T) {
	n := 0
	for p := range 1 << 16 {
		is := frame.Proto(uint16(p))
		if is != mayBe(p) {
			t.Errorf("Proto(%#x) = %t", p, is)
		}
		if is {
			n++
		}
	}
	if n != 128*128-1 {
		t.Errorf("%d numbers may be", n)
	}
}

// known are frames with their bytes, whose check sequences another program reckoned.
var known = []struct {
	f     api.Frame
	short bool
	b     []byte
}{
	{api.Frame{Proto: 0x21}, true, []byte{33, 243, 192}},
	{api.Frame{Proto: 0x21}, false, []byte{255, 3, 0, 33, 227, 230}},
	{api.Frame{Proto: 0x21, Info: []byte("x")}, true, []byte{33, 120, 99, 202}},
	{api.Frame{Proto: 0x21, Info: []byte("x")}, false, []byte{255, 3, 0, 33, 120, 196, 218}},
	{api.Frame{Proto: 1}, true, []byte{1, 241, 225}},
	{api.Frame{Proto: 253}, true, []byte{253, 18, 220}},
	{api.Frame{Proto: 0x8021}, true, []byte{128, 33, 0, 179}},
	{api.Frame{Proto: 0x8021, Info: []byte{126, 125, 17}}, true, []byte{128, 33, 126, 125, 17, 189, 7}},
	{api.Frame{Proto: 0xC223, Info: []byte{3, 1, 0, 4}}, true, []byte{194, 35, 3, 1, 0, 4, 194, 188}},
	{api.Frame{Proto: 0xC223, Info: []byte{3, 1, 0, 4}}, false, []byte{255, 3, 194, 35, 3, 1, 0, 4, 121, 146}},
	{api.Frame{Proto: 0xFEFF}, true, []byte{254, 255, 39, 230}},
	{api.Frame{Proto: 0xFEFF}, false, []byte{255, 3, 254, 255, 8, 63}},
	{api.Frame{Proto: 0xC021}, false, []byte{255, 3, 192, 33, 73, 44}},
	{api.Frame{Proto: 0xC021}, true, []byte{255, 3, 192, 33, 73, 44}},
	{api.Frame{Proto: 0xC021, Info: []byte{1, 1, 0, 4}}, true, []byte{255, 3, 192, 33, 1, 1, 0, 4, 209, 181}},
}

// P8.1 and P8.2: frames by hand, as bytes and read again.
func TestKnown(t *testing.T) {
	for i, k := range known {
		if b, e := frame.Bytes(k.f, k.short); e != api.OK || !bytes.Equal(b, k.b) {
			t.Errorf("%d: %v, %d, not %v", i, b, e, k.b)
		}
		if f, e := frame.Read(k.b); e != api.OK || !alike(f, k.f) {
			t.Errorf("%d: %v, %d, not %v", i, f, e, k.f)
		}
	}
}

// P8.1: frames of all protocols, short or not; of one that may not be, nothing.
func TestBytesAllProtos(t *testing.T) {
	for p := range 1 << 16 {
		f := api.Frame{Proto: uint16(p), Info: []byte{255, 3, 7}}
		for _, short := range []bool{false, true} {
			b, e := frame.Bytes(f, short)
			if !mayBe(p) {
				if e != api.ErrArg || b != nil {
					t.Fatalf("Bytes of %#x, %t = %v, %d", p, short, b, e)
				}
				continue
			}
			if want := sealed(bare(f, short)); e != api.OK || !bytes.Equal(b, want) {
				t.Fatalf("Bytes of %#x, %t = %v, %d, not %v", p, short, b, e, want)
			}
		}
	}
}

// P8.1: whatever frames hold.
func TestBytesAll(t *testing.T) {
	for _, f := range frames() {
		for _, short := range []bool{false, true} {
			b, e := frame.Bytes(f, short)
			if want := sealed(bare(f, short)); e != api.OK || !bytes.Equal(b, want) {
				t.Errorf("Bytes of %#x with %d bytes, %t: %v, %d", f.Proto, len(f.Info), short, b, e)
			}
		}
	}
}

// P8.1: MaxInfo bytes may be held, one more may not, of any protocol, short or not.
func TestBytesFull(t *testing.T) {
	for n, want := range map[int]api.Errno{1498: api.OK, 1499: api.OK, 1500: api.OK, 1501: api.ErrArg, 1502: api.ErrArg, 1508: api.ErrArg, 5000: api.ErrArg, 70000: api.ErrArg} {
		for _, p := range protos() {
			for _, short := range []bool{false, true} {
				b, e := frame.Bytes(api.Frame{Proto: p, Info: make([]byte, n)}, short)
				if e != want || e != api.OK && b != nil {
					t.Errorf("%d bytes of %#x, %t: %d bytes, %d", n, p, short, len(b), e)
				}
			}
		}
	}
	for _, p := range noProtos() {
		if b, e := frame.Bytes(api.Frame{Proto: p, Info: make([]byte, 1501)}, true); b != nil || e != api.ErrArg {
			t.Errorf("1501 bytes of %#x: %d bytes, %d", p, len(b), e)
		}
	}
}

// P8.1: two frames are the same, if their numbers are and what they hold is.
func TestSame(t *testing.T) {
	list := []api.Frame{
		{}, {Proto: 1}, {Proto: 0x0100}, {Proto: 0x0101}, {Info: []byte{0}}, {Info: []byte{0, 0}}, {Proto: 1, Info: []byte{0}},
		{Proto: 1, Info: []byte{1}}, {Proto: 1, Info: []byte{1, 2}}, {Proto: 1, Info: []byte{2, 1}}, {Proto: 0xC021, Info: []byte{1}}, {Proto: 0xC021, Info: drawn(1500)},
	}
	for i, a := range list {
		for j, b := range list {
			b.Info = bytes.Clone(b.Info)
			if frame.Same(a, b) != (i == j) {
				t.Errorf("Same of %d and %d = %t", i, j, i != j)
			}
		}
	}
	if !frame.Same(api.Frame{Proto: 1, Info: nil}, api.Frame{Proto: 1, Info: []byte{}}) {
		t.Error("two lists without elements aren't the same")
	}
	for i := range 1500 {
		a, b := drawn(1500), drawn(1500)
		b[i] ^= 1
		if frame.Same(api.Frame{Info: a}, api.Frame{Info: b}) {
			t.Errorf("a bit at %d isn't seen", i)
		}
	}
}
