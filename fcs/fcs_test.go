package fcs_test

import (
	"bytes"
	"math/rand"
	"testing"

	"portreeve/api"
	"portreeve/fcs"
)

// nibbles is what four bits do to a register: the tests reckon by it, so that they don't repeat the package's own way.
var nibbles = [16]uint16{
	0x0000, 0x1081, 0x2102, 0x3183, 0x4204, 0x5285, 0x6306, 0x7387,
	0x8408, 0x9489, 0xA50A, 0xB58B, 0xC60C, 0xD68D, 0xE70E, 0xF78F,
}

func stepByNibbles(sum uint16, c byte) uint16 {
	sum ^= uint16(c)
	for i := 0; i < 2; i++ {
		sum = sum>>4 ^ nibbles[sum&15]
	}
	return sum
}

func onByNibbles(sum uint16, b []byte) uint16 {
	for _, c := range b {
		sum = stepByNibbles(sum, c)
	}
	return sum
}

// samples are bytes of many lengths: the edges first, then drawn ones, the same in every run.
func samples() [][]byte {
	out := [][]byte{
		nil, {}, {0}, {0xFF}, {0x7E}, {0, 0}, {0xFF, 0xFF}, {1, 2},
		[]byte("123456789"), bytes.Repeat([]byte{0}, 300), bytes.Repeat([]byte{0xFF}, 300),
	}
	r := rand.New(rand.NewSource(1))
	for n := 1; n < 80; n++ {
		b := make([]byte, n)
		r.Read(b)
		out = append(out, b)
	}
	long := make([]byte, api.MaxLine+1)
	r.Read(long)
	return append(out, long)
}

// P1.1: the entries of RFC 1662's table are steps from nought.
func TestStepKnown(t *testing.T) {
	known := map[byte]uint16{
		0x00: 0x0000, 0x01: 0x1189, 0x02: 0x2312, 0x03: 0x329B, 0x04: 0x4624, 0x05: 0x57AD,
		0x06: 0x6536, 0x07: 0x74BF, 0x08: 0x8C48, 0x10: 0x1081, 0x80: 0x8408, 0xFF: 0x0F78,
	}
	for c, want := range known {
		if got := fcs.Step(0, c); got != want {
			t.Errorf("Step(0, %#x) = %#x, not %#x", c, got, want)
		}
	}
}

// P1.1: all registers, with all bytes.
func TestStepAll(t *testing.T) {
	for sum := 0; sum <= 0xFFFF; sum++ {
		for c := 0; c <= 0xFF; c++ {
			got, want := fcs.Step(uint16(sum), byte(c)), stepByNibbles(uint16(sum), byte(c))
			if got != want {
				t.Fatalf("Step(%#x, %#x) = %#x, not %#x", sum, c, got, want)
			}
		}
	}
}

// P1.1: steps with all bytes, in order, from any register.
func TestOn(t *testing.T) {
	for _, b := range samples() {
		for _, sum := range []uint16{0, 1, 0x8408, 0xF0B8, 0xFFFF} {
			if got, want := fcs.On(sum, b), onByNibbles(sum, b); got != want {
				t.Errorf("On(%#x, %x) = %#x, not %#x", sum, b, got, want)
			}
		}
	}
	if got := fcs.On(0x1234, nil); got != 0x1234 {
		t.Errorf("On(0x1234, nothing) = %#x", got)
	}
	if fcs.On(0, []byte{1, 2}) == fcs.On(0, []byte{2, 1}) {
		t.Error("On doesn't go in order")
	}
	whole := []byte("123456789")
	if got := fcs.On(fcs.On(0xFFFF, whole[:4]), whole[4:]); got != fcs.On(0xFFFF, whole) {
		t.Errorf("On in two parts = %#x", got)
	}
}

// P1.1: bytes whose check sequences are known.
func TestPutKnown(t *testing.T) {
	known := []struct {
		in   string
		tail []byte
	}{
		{"", []byte{0, 0}},
		{"\x00", []byte{0x78, 0xF0}},
		{"\xFF", []byte{0x00, 0xFF}},
		{"A", []byte{0xF5, 0xA3}},
		{"123456789", []byte{110, 144}},
	}
	for _, k := range known {
		want := append([]byte(k.in), k.tail...)
		if got := fcs.Put([]byte(k.in)); !bytes.Equal(got, want) {
			t.Errorf("Put(%q) = %x, not %x", k.in, got, want)
		}
	}
}

// P1.1: the bytes stay, and the lower byte of their check sequence comes first.
func TestPut(t *testing.T) {
	for _, b := range samples() {
		sum := ^onByNibbles(0xFFFF, b)
		want := append(bytes.Clone(b), byte(sum), byte(sum>>8))
		if got := fcs.Put(b); !bytes.Equal(got, want) {
			t.Errorf("Put(%x) = %x, not %x", b, got, want)
		}
	}
}

// P1.2: what is too short is neither good nor cut.
func TestShort(t *testing.T) {
	if fcs.Good(nil) || fcs.Good([]byte{}) {
		t.Error("no bytes are good")
	}
	if c, e := fcs.Cut(nil); c != nil || e != api.ErrForm {
		t.Errorf("Cut(nil) = %v, %d", c, e)
	}
	for c := 0; c <= 0xFF; c++ {
		b := []byte{byte(c)}
		if fcs.Good(b) {
			t.Errorf("one byte %#x is good", c)
		}
		if got, e := fcs.Cut(b); got != nil || e != api.ErrForm {
			t.Errorf("Cut(%x) = %v, %d", b, got, e)
		}
	}
}

// P1.2: of two bytes only the check sequence of nothing is good, and nothing is what it is cut to.
func TestTwoBytes(t *testing.T) {
	for n := 0; n <= 0xFFFF; n++ {
		b := []byte{byte(n), byte(n >> 8)}
		want := api.ErrSum
		if n == 0 {
			want = api.OK
		}
		if fcs.Good(b) != (n == 0) {
			t.Errorf("Good(%x) = %t", b, fcs.Good(b))
		}
		if got, e := fcs.Cut(b); len(got) != 0 || e != want {
			t.Errorf("Cut(%x) = %v, %d, not %d", b, got, e, want)
		}
	}
}

// P1.2: good is what leaves 61624 in the register, and what isn't good gives ErrSum and nothing.
func TestGoodAndCut(t *testing.T) {
	for _, b := range samples() {
		good := len(b) >= 2 && onByNibbles(65535, b) == 61624
		if fcs.Good(b) != good {
			t.Errorf("Good(%x) = %t", b, !good)
		}
		if len(b) < 2 || good {
			continue
		}
		if got, e := fcs.Cut(b); got != nil || e != api.ErrSum {
			t.Errorf("Cut(%x) = %v, %d", b, got, e)
		}
	}
}

// P1.3: what is put is good, and is cut as it was.
func TestPutThenCut(t *testing.T) {
	for _, b := range samples() {
		put := fcs.Put(b)
		if !fcs.Good(put) {
			t.Errorf("Put(%x) isn't good", b)
		}
		if got, e := fcs.Cut(put); e != api.OK || !bytes.Equal(got, b) {
			t.Errorf("Cut(Put(%x)) = %x, %d", b, got, e)
		}
	}
}

// P1.3: of all two bytes behind some, just those that are put make it good.
func TestTwoBytesAndNoOthers(t *testing.T) {
	for _, s := range []string{"", "A", "123456789", "\x00\x00", "\xFF\x03\xC0\x21"} {
		put := fcs.Put([]byte(s))
		b := bytes.Clone(put)
		for n := 0; n <= 0xFFFF; n++ {
			b[len(s)], b[len(s)+1] = byte(n), byte(n>>8)
			if fcs.Good(b) != bytes.Equal(b, put) {
				t.Fatalf("Good(%x) = %t", b, fcs.Good(b))
			}
		}
	}
}

// turned is bytes of which 16 bits, from a place on, are turned where the bits of how are 1; in each byte its lowest bit stands first, as on a line, or its highest one does, as it is written.
func turned(b []byte, place int, how uint16, highest bool) []byte {
	out := bytes.Clone(b)
	for i := range 16 {
		bit := (place + i) % 8
		if highest {
			bit = 7 - bit
		}
		out[(place+i)/8] ^= byte(how>>i&1) << bit
	}
	return out
}

// P1.3: all changes within 16 bits that stand together, at all places, are found, whichever bit of a byte stands first.
func TestChangedTogether(t *testing.T) {
	for _, s := range []string{"", "A", "\x7E\x7D\x00"} {
		for _, highest := range []bool{false, true} {
			put := fcs.Put([]byte(s))
			for place := 0; place <= len(put)*8-16; place++ {
				for how := 1; how <= 0xFFFF; how++ {
					b := turned(put, place, uint16(how), highest)
					if got, e := fcs.Cut(b); fcs.Good(b) || got != nil || e != api.ErrSum {
						t.Fatalf("%x for %x is good", b, put)
					}
				}
			}
		}
	}
}

// P1.3: a changed byte, and two that stand together, are found in bytes of many lengths.
func TestChangedBytes(t *testing.T) {
	for _, s := range samples() {
		put := fcs.Put(s)
		for i := range put {
			b := bytes.Clone(put)
			b[i] ^= byte(i%255) + 1
			if got, e := fcs.Cut(b); fcs.Good(b) || got != nil || e != api.ErrSum {
				t.Fatalf("a changed byte at %d of %x isn't found", i, put)
			}
			if i+1 == len(put) {
				continue
			}
			b[i+1] ^= byte(i%254) + 2
			if got, e := fcs.Cut(b); fcs.Good(b) || got != nil || e != api.ErrSum {
				t.Fatalf("changed bytes at %d and behind it of %x aren't found", i, put)
			}
		}
	}
}

// R3: spare room behind the bytes that are put is left alone, and nothing is shared.
func TestPutLeavesItsBytes(t *testing.T) {
	room := []byte("123456789abcdef")
	got := fcs.Put(room[:9])
	got = got[:cap(got)]
	if string(room) != "123456789abcdef" {
		t.Errorf("Put wrote into what was handed in: %q", room)
	}
	for i := range got {
		got[i] ^= 0xFF
	}
	if string(room) != "123456789abcdef" {
		t.Errorf("what was put shares memory: %q", room)
	}
}

// R3: what is cut shares nothing with what it was cut of, and that stays.
func TestCutLeavesItsBytes(t *testing.T) {
	put := fcs.Put([]byte("123456789"))
	old := bytes.Clone(put)
	got, e := fcs.Cut(put)
	if e != api.OK || !bytes.Equal(put, old) {
		t.Fatalf("Cut: %d, %x for %x", e, put, old)
	}
	got = got[:cap(got)]
	for i := range got {
		got[i] ^= 0xFF
	}
	if !bytes.Equal(put, old) {
		t.Errorf("what is cut shares memory: %x for %x", put, old)
	}
	got, _ = fcs.Cut(put)
	put[0] ^= 0xFF
	if string(got) != "123456789" {
		t.Errorf("what was cut is changed later: %q", got)
	}
}

// R3: neither On nor Good writes.
func TestOnAndGoodLeaveTheirBytes(t *testing.T) {
	b := fcs.Put([]byte("123456789"))
	old := bytes.Clone(b)
	fcs.On(0, b)
	fcs.Good(b)
	if !bytes.Equal(b, old) {
		t.Errorf("%x for %x", b, old)
	}
}
