package frame_test

import (
	"bytes"
	"testing"

	"portreeve/api"
	"portreeve/frame"
)

// readsAs: does Read tell of b, sealed, what it should?
func readsAs(t *testing.T, b []byte) {
	t.Helper()
	want, err := read(b)
	got, e := frame.Read(sealed(b))
	if e != err || !alike(got, want) || e != api.OK && !nothing(got) {
		t.Fatalf("Read of %v, sealed = %v, %d, not %v, %d", b, got, e, want, err)
	}
}

// P8.2: by hand, what is right, and what is wrong in one way or more.
func TestReadKnown(t *testing.T) {
	for i, k := range []struct {
		b    []byte
		want api.Frame
		e    api.Errno
	}{
		{nil, api.Frame{}, api.ErrForm},
		{[]byte{255, 3}, api.Frame{}, api.ErrForm},
		{[]byte{255}, api.Frame{}, api.ErrForm},
		{[]byte{0}, api.Frame{}, api.ErrForm},
		{[]byte{192}, api.Frame{}, api.ErrForm},
		{[]byte{255, 3, 192}, api.Frame{}, api.ErrForm},
		{[]byte{192, 32}, api.Frame{}, api.ErrForm},
		{[]byte{192, 32, 33, 33}, api.Frame{}, api.ErrForm},
		{[]byte{0, 0}, api.Frame{}, api.ErrForm},
		{[]byte{0, 255}, api.Frame{}, api.ErrForm},
		{[]byte{255, 3, 0, 255, 1}, api.Frame{}, api.ErrForm},
		{[]byte{255, 3, 255}, api.Frame{}, api.ErrForm},
		{[]byte{255, 3, 255, 3, 0, 33}, api.Frame{}, api.ErrForm},
		{[]byte{255, 4, 0, 33}, api.Frame{}, api.ErrForm},
		{[]byte{255, 0, 33}, api.Frame{}, api.ErrForm},
		{[]byte{33}, api.Frame{Proto: 0x21}, api.OK},
		{[]byte{0, 33}, api.Frame{Proto: 0x21}, api.OK},
		{[]byte{255, 3, 33}, api.Frame{Proto: 0x21}, api.OK},
		{[]byte{255, 3, 0, 33}, api.Frame{Proto: 0x21}, api.OK},
		{[]byte{3}, api.Frame{Proto: 3}, api.OK},
		{[]byte{3, 255}, api.Frame{Proto: 3, Info: []byte{255}}, api.OK},
		{[]byte{255, 3, 3, 255, 3}, api.Frame{Proto: 3, Info: []byte{255, 3}}, api.OK},
		{[]byte{33, 255, 3, 9}, api.Frame{Proto: 0x21, Info: []byte{255, 3, 9}}, api.OK},
		{[]byte{192, 33}, api.Frame{Proto: 0xC021}, api.OK},
		{[]byte{192, 33, 1, 2}, api.Frame{Proto: 0xC021, Info: []byte{1, 2}}, api.OK},
		{[]byte{255, 3, 192, 33, 1, 2}, api.Frame{Proto: 0xC021, Info: []byte{1, 2}}, api.OK},
		{[]byte{193, 33}, api.Frame{Proto: 193, Info: []byte{33}}, api.OK},
		{[]byte{254, 255, 3}, api.Frame{Proto: 0xFEFF, Info: []byte{3}}, api.OK},
		{[]byte{192, 255, 3}, api.Frame{Proto: 0xC0FF, Info: []byte{3}}, api.OK},
		{[]byte{2, 255}, api.Frame{Proto: 0x02FF}, api.OK},
	} {
		got, e := frame.Read(sealed(k.b))
		if e != k.e || !alike(got, k.want) || e != api.OK && !nothing(got) {
			t.Errorf("%d: %v, %d, not %v, %d", i, got, e, k.want, k.e)
		}
	}
}

// P8.2: fewer than two bytes, and a check sequence that is wrong, are told as chapter 1's Cut tells them, whatever else is wrong.
func TestReadCut(t *testing.T) {
	for _, b := range [][]byte{nil, {}, {0}, {33}, {255}} {
		if f, e := frame.Read(b); e != api.ErrForm || !nothing(f) {
			t.Errorf("Read(%v) = %v, %d", b, f, e)
		}
	}
	for _, b := range [][]byte{
		{255, 3}, {33, 0}, {33, 0, 0}, {33, 192, 243}, {33, 243, 193}, {0, 33, 243, 192}, {32, 0, 0}, {255, 3, 255, 3}, {0, 0, 0}, {255, 3, 0, 33},
		make([]byte, 1503), append([]byte{33}, make([]byte, 1505)...), append([]byte{255, 3, 192, 33}, make([]byte, 5000)...),
	} {
		if f, e := frame.Read(b); e != api.ErrSum || !nothing(f) {
			t.Errorf("Read(%v) = %v, %d", b, f, e)
		}
	}
	for i, k := range known {
		for at := range k.b {
			b := bytes.Clone(k.b)
			b[at] ^= 0x40
			if f, e := frame.Read(b); e != api.ErrSum || !nothing(f) {
				t.Errorf("frame %d, changed at %d: %v, %d", i, at, f, e)
			}
		}
	}
}

// P8.2: all heads of one byte, of two, and of two behind 255, 3, with nothing behind and with something.
func TestReadHeads(t *testing.T) {
	for p := range 1 << 16 {
		b := []byte{255, 3, byte(p >> 8), byte(p)}
		readsAs(t, b)
		readsAs(t, b[2:])
		readsAs(t, append(b[2:], 255, 3, 33))
		if p < 256 {
			readsAs(t, b[3:])
			readsAs(t, []byte{255, 3, byte(p)})
		}
	}
}

// P8.2: all rows of a few bytes that matter.
func TestReadRows(t *testing.T) {
	rows := [][]byte{nil}
	for range 6 {
		var longer [][]byte
		for _, row := range rows {
			readsAs(t, row)
			for _, c := range []byte{255, 3, 0, 33, 192, 254} {
				longer = append(longer, append(bytes.Clone(row), c))
			}
		}
		rows = longer
	}
}

// P8.2: MaxInfo bytes are read, one more isn't, whichever form the head has; of a protocol that may not be it is ErrForm, however much it holds.
func TestReadFull(t *testing.T) {
	heads := map[string]bool{
		"\x21": true, "\x00\x21": true, "\xff\x03\x21": true, "\xff\x03\x00\x21": true, "\xc0\x21": true, "\xff\x03\xc0\x21": true, "\xff\x03\xfe\xff": true,
		"\xff": false, "\x00\x20": false, "\xff\x03\xff": false, "\xff\x03\x00\xff": false, "\xff\x03\xc0\x20": false, "\xff\x03\x20\x20": false,
	}
	for _, n := range []int{0, 1, 1498, 1499, 1500, 1501, 1502, 1506, 1508, 3000, 70000} {
		for head, right := range heads {
			want := api.OK
			switch {
			case !right:
				want = api.ErrForm
			case n > 1500:
				want = api.ErrFull
			}
			f, e := frame.Read(sealed(append([]byte(head), bytes.Repeat([]byte{4}, n)...)))
			if e != want || e == api.OK && len(f.Info) != n || e != api.OK && !nothing(f) {
				t.Errorf("%x and %d bytes: %d, not %d", head, n, e, want)
			}
		}
	}
}

// P8.2: drawn bytes, sealed or not.
func TestReadDrawn(t *testing.T) {
	for n := range 2000 {
		readsAs(t, drawn(n))
		if f, e := frame.Read(append(sealed(drawn(n)), 1)); n > 0 && e != api.ErrSum || !nothing(f) {
			t.Fatalf("%d bytes that aren't sealed: %v, %d", n, f, e)
		}
	}
}

// P8.4: bytes are read as they were, short or not, of all protocols that may be.
func TestBytesThenRead(t *testing.T) {
	list := frames()
	for p := range 1 << 16 {
		if mayBe(p) {
			list = append(list, api.Frame{Proto: uint16(p), Info: []byte{3, 255, 3}}, api.Frame{Proto: uint16(p)})
		}
	}
	for _, f := range list {
		for _, short := range []bool{false, true} {
			b, e := frame.Bytes(f, short)
			if got, r := frame.Read(b); e != api.OK || r != api.OK || !alike(got, f) {
				t.Fatalf("%#x with %d bytes, %t: %d, %d", f.Proto, len(f.Info), short, e, r)
			}
		}
	}
}

// P8.4: all changes of two bytes that stand together, at all places of a few frames, are refused.
func TestChangedTogether(t *testing.T) {
	for _, k := range known[:7] {
		for at := range len(k.b) - 1 {
			for how := 1; how < 1<<16; how++ {
				b := bytes.Clone(k.b)
				b[at] ^= byte(how)
				b[at+1] ^= byte(how >> 8)
				if f, e := frame.Read(b); e != api.ErrSum || !nothing(f) {
					t.Fatalf("%v for %v = %v, %d", b, k.b, f, e)
				}
			}
		}
	}
}

// P8.4: changes at all places of longer frames, drawn, are refused, also where they come on a line.
func TestChangedLong(t *testing.T) {
	for _, n := range []int{40, 200, 1200} {
		for i, p := range protos() {
			b, _ := frame.Bytes(api.Frame{Proto: p, Info: drawn(n)}, i%2 == 0)
			for at := i; at < len(b)-1; at += 7 {
				b[at] ^= byte(at)%255 + 1
				b[at+1] ^= byte(at)
				if f, e := frame.Read(b); e != api.ErrSum || !nothing(f) {
					t.Fatalf("%#x with %d bytes, changed at %d: %v, %d", p, n, at, f, e)
				}
				if _, got := takeAll(t, api.Line{}, escaped(b, 0)); len(b) < 300 && got != nil {
					t.Fatalf("%#x with %d bytes, changed at %d: %v", p, n, at, got)
				}
				b[at] ^= byte(at)%255 + 1
				b[at+1] ^= byte(at)
			}
		}
	}
}
