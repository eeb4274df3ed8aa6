package pack_test

import (
	"bytes"
	"testing"

	"portreeve/api"
	"portreeve/pack"
)

// P9.1, P9.4: packets by hand, as bytes and read again; the chapter's example among them.
func TestKnown(t *testing.T) {
	for i, k := range known() {
		if b, e := pack.Bytes(k.p); e != api.OK || !bytes.Equal(b, k.b) {
			t.Errorf("%d: %v, %d, not %v", i, b, e, k.b)
		}
		if p, e := pack.Read(k.b); e != api.OK || !alike(p, k.p) {
			t.Errorf("%d: %v, %d, not %v", i, p, e, k.p)
		}
	}
}

// P9.1: all codes and all Ids.
func TestBytesHeads(t *testing.T) {
	for code := range 256 {
		for id := range 256 {
			b, e := pack.Bytes(api.Pkt{Code: byte(code), Id: byte(id), Data: []byte{9, 8}})
			if e != api.OK || !bytes.Equal(b, []byte{byte(code), byte(id), 0, 6, 9, 8}) {
				t.Fatalf("%d, %d: %v, %d", code, id, b, e)
			}
		}
	}
}

// P9.1: all lengths that may be, and the first ones that may not.
func TestBytesLengths(t *testing.T) {
	for n := range 3000 {
		p := api.Pkt{Code: 1, Id: 2, Data: drawn(n)}
		b, e := pack.Bytes(p)
		switch {
		case n > 1496 && (e != api.ErrArg || b != nil):
			t.Fatalf("%d bytes: %d bytes, %d", n, len(b), e)
		case n <= 1496 && (e != api.OK || !bytes.Equal(b, spelt(p))):
			t.Fatalf("%d bytes: %v, %d", n, b, e)
		}
	}
}

// P9.1: lengths that two bytes can't tell, or that they would tell as ones that may be.
func TestBytesTooLong(t *testing.T) {
	for _, n := range []int{1497, 1500, 1501, 65531, 65532, 65535, 65536, 65540, 1<<17 + 10, 1 << 24} {
		for _, code := range []byte{0, 1, 255} {
			if b, e := pack.Bytes(api.Pkt{Code: code, Data: make([]byte, n)}); e != api.ErrArg || b != nil {
				t.Errorf("%d bytes: %d bytes, %d", n, len(b), e)
			}
		}
	}
}

// P9.1: two packets are the same, if their codes, their Ids, and what they hold are.
func TestSame(t *testing.T) {
	list := []api.Pkt{
		{}, {Code: 1}, {Code: 255}, {Id: 1}, {Id: 255}, {Code: 1, Id: 1}, {Code: 1, Id: 2}, {Code: 2, Id: 1}, {Data: []byte{0}}, {Data: []byte{0, 0}},
		{Data: []byte{1}}, {Code: 1, Data: []byte{1}}, {Id: 1, Data: []byte{1}}, {Code: 1, Id: 1, Data: []byte{1}}, {Data: []byte{1, 2}}, {Data: []byte{2, 1}},
		{Data: []byte{1, 2, 3}}, {Code: 9, Id: 9, Data: drawn(1496)}, {Code: 9, Id: 9, Data: drawn(1495)},
	}
	for i, a := range list {
		for j, b := range list {
			b.Data = bytes.Clone(b.Data)
			if pack.Same(a, b) != (i == j) {
				t.Errorf("Same of %d and %d = %t", i, j, i != j)
			}
		}
	}
	if !pack.Same(api.Pkt{Code: 3, Data: nil}, api.Pkt{Code: 3, Data: []byte{}}) {
		t.Error("two lists without elements aren't the same")
	}
	for i := range 1496 {
		a, b := drawn(1496), drawn(1496)
		b[i] ^= 1
		if pack.Same(api.Pkt{Data: a}, api.Pkt{Data: b}) {
			t.Errorf("a bit at %d isn't seen", i)
		}
	}
}
