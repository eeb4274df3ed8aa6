package opts_test

import (
	"bytes"
	"math/rand"
	"slices"
	"testing"

	"portreeve/api"
	"portreeve/opts"
)

// tellsAs: does Bytes tell of l what it should?
func tellsAs(t *testing.T, l []api.Opt) {
	t.Helper()
	b, e := opts.Bytes(l)
	switch may := mayBeTold(l); {
	case may && (e != api.OK || !bytes.Equal(b, spelt(l))):
		t.Errorf("%d options: %v, %d, not %v", len(l), b, e, spelt(l))
	case !may && (e != api.ErrArg || b != nil):
		t.Errorf("%d options that may not be: %d bytes, %d", len(l), len(b), e)
	}
}

// P10.1, P10.4: options by hand, as bytes and read again; the chapter's example among them.
func TestKnown(t *testing.T) {
	for i, k := range known() {
		if b, e := opts.Bytes(k.l); e != api.OK || string(b) != k.b {
			t.Errorf("%d: %v, %d, not %v", i, b, e, []byte(k.b))
		}
		if l, e := opts.Read([]byte(k.b)); e != api.OK || !alike(l, k.l) {
			t.Errorf("%d: %v, %d, not %v", i, l, e, k.l)
		}
	}
}

// P10.1: all types, alone and behind one another.
func TestBytesTypes(t *testing.T) {
	for a := range 256 {
		for b := range 256 {
			got, e := opts.Bytes([]api.Opt{opt(byte(a), 9), opt(byte(b))})
			if e != api.OK || !bytes.Equal(got, []byte{byte(a), 3, 9, byte(b), 2}) {
				t.Fatalf("%d, %d: %v, %d", a, b, got, e)
			}
		}
	}
}

// P10.1: one option of all lengths: 253 bytes may be, and no more, also where the length that is told would go round.
func TestBytesOfOne(t *testing.T) {
	for n := range 2000 {
		data := drawn(n)
		b, e := opts.Bytes([]api.Opt{{Type: 7, Data: data}})
		switch {
		case n > 253 && (e != api.ErrArg || b != nil):
			t.Fatalf("%d bytes: %d bytes, %d", n, len(b), e)
		case n <= 253 && (e != api.OK || !bytes.Equal(b, append([]byte{7, byte(n + 2)}, data...))):
			t.Fatalf("%d bytes: %v, %d", n, b, e)
		}
	}
	for _, n := range []int{65535, 65536, 1<<17 + 3, 1 << 24} {
		tellsAs(t, []api.Opt{{Data: make([]byte, n)}})
	}
}

// P10.1: an option that is longer than it may be, wherever it stands.
func TestBytesTooLong(t *testing.T) {
	for _, n := range []int{254, 255, 256, 257, 510, 1494, 1500, 65536} {
		for at := range 5 {
			l := slices.Insert([]api.Opt{opt(1, 5, 220), opt(7), opt(8), opt(5, 1, 2, 3, 4)}, at, opt(9, drawn(n)...))
			if b, e := opts.Bytes(l); e != api.ErrArg || b != nil {
				t.Errorf("%d bytes at %d: %d bytes, %d", n, at, len(b), e)
			}
		}
	}
}

// P10.1: options of all sizes, as many as may be, and more.
func TestBytesOfMany(t *testing.T) {
	for size := range 254 {
		n := 1496 / (size + 2)
		rest := 1496 - n*(size+2)
		tellsAs(t, many(n, size))
		tellsAs(t, many(n+1, size))
		tellsAs(t, many(2*n, size))
		for _, more := range []int{rest - 3, rest - 2, rest - 1, rest} {
			if 0 <= more && more <= 253 {
				tellsAs(t, append(many(n, size), opt(3, drawn(more)...)))
				tellsAs(t, append([]api.Opt{opt(3, drawn(more)...)}, many(n, size)...))
			}
		}
	}
}

// P10.1: the edges of what all have, by hand: 1496 bytes, and 1497.
func TestBytesOfAll(t *testing.T) {
	for i, k := range []struct {
		l []api.Opt
		n int // how many bytes; 0, if too many
	}{
		{many(748, 0), 1496}, {many(749, 0), 0}, {append(many(746, 0), opt(1, 1)), 1495}, {append(many(746, 0), opt(1, 1, 2)), 1496}, {append(many(746, 0), opt(1, 1, 2, 3)), 0},
		{append(many(747, 0), opt(1, 1)), 0}, {append(many(5, 253), opt(1, drawn(218)...)), 1495}, {append(many(5, 253), opt(1, drawn(219)...)), 1496},
		{append(many(5, 253), opt(1, drawn(220)...)), 0}, {append(many(5, 253), opt(1, drawn(221)...)), 0}, {append(many(5, 253), opt(1, drawn(223)...)), 0}, {many(6, 253), 0},
		{many(1500, 0), 0}, {many(32768, 0), 0}, {many(33000, 0), 0}, {many(32769, 126), 0}, {many(100000, 1), 0}, {many(257, 253), 0}, {append(many(748, 0), opt(1, drawn(254)...)), 0},
	} {
		if b, e := opts.Bytes(k.l); len(b) != k.n || (e == api.OK) != (k.n > 0) || e != api.OK && (e != api.ErrArg || b != nil) {
			t.Errorf("%d: %d bytes, %d, not %d", i, len(b), e, k.n)
		}
	}
}

// P10.1: drawn lists, in and about what may be.
func TestBytesDrawn(t *testing.T) {
	r := rand.New(rand.NewSource(1))
	for range 3000 {
		var l []api.Opt
		for range r.Intn(20) {
			l = append(l, opt(byte(r.Intn(256)), drawn(r.Intn(150))...))
		}
		tellsAs(t, l)
	}
	for _, l := range lists() {
		if !mayBeTold(l) {
			t.Fatalf("the sample of %d options may not be told", len(l))
		}
		tellsAs(t, l)
	}
}

// P10.1: two lists are the same, if they have the same options in the same order.
func TestSame(t *testing.T) {
	all := [][]api.Opt{
		nil, {opt(0)}, {opt(0), opt(0)}, {opt(0), opt(0), opt(0)}, {opt(1)}, {opt(255)}, {opt(1), opt(2)}, {opt(2), opt(1)}, {opt(1), opt(1)}, {opt(1), opt(2), opt(1)},
		{opt(1, 0)}, {opt(1, 0, 0)}, {opt(1, 1)}, {opt(1, 255)}, {opt(1, 1, 2)}, {opt(1, 2, 1)}, {opt(2, 1, 2)}, {opt(1, 1), opt(2)}, {opt(1), opt(2, 1)}, {opt(1, 2), opt(2, 1)},
		{opt(1, 2, 3), opt(2)}, {opt(1), opt(2, 2, 3)}, {opt(1, 2, 2)}, {opt(9, drawn(253)...)}, {opt(9, drawn(252)...)}, many(748, 0), many(747, 0), many(5, 253),
	}
	for i, a := range all {
		for j, b := range all {
			if opts.Same(a, clone(b)) != (i == j) {
				t.Errorf("Same of %d and %d = %t", i, j, i != j)
			}
		}
	}
	if !opts.Same(nil, []api.Opt{}) || !opts.Same([]api.Opt{}, nil) || !opts.Same([]api.Opt{{Type: 3, Data: nil}}, []api.Opt{{Type: 3, Data: []byte{}}}) {
		t.Error("two lists without elements aren't the same")
	}
}

// P10.1: Same sees each bit, wherever it stands.
func TestSameSeesAll(t *testing.T) {
	a := append(many(5, 253), opt(77, drawn(219)...))
	for i, o := range a {
		for bit := range 8 {
			b := clone(a)
			b[i].Type ^= 1 << bit
			if opts.Same(a, b) || opts.Same(b, a) {
				t.Errorf("bit %d of the type of option %d isn't seen", bit, i)
			}
		}
		for j := range o.Data {
			b := clone(a)
			b[i].Data[j] ^= 1 << (j % 8)
			if opts.Same(a, b) || opts.Same(b, a) {
				t.Errorf("a bit of option %d at %d isn't seen", i, j)
			}
		}
	}
}
