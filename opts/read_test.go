package opts_test

import (
	"bytes"
	"math/rand"
	"testing"

	"portreeve/api"
	"portreeve/opts"
)

// readsAs: does Read tell of b what it should?
func readsAs(t *testing.T, b []byte) {
	t.Helper()
	want, err := read(b)
	got, e := opts.Read(b)
	if e != err || !alike(got, want) || e != api.OK && got != nil {
		t.Fatalf("Read of %d bytes, %v = %v, %d, not %v, %d", len(b), b[:min(len(b), 9)], got, e, want, err)
	}
}

// areNone: are b, as Read tells of them, no options?
func areNone(t *testing.T, b []byte) {
	t.Helper()
	if l, e := opts.Read(b); e != api.ErrForm || l != nil {
		t.Errorf("Read of %d bytes, %v = %v, %d", len(b), b[:min(len(b), 9)], l, e)
	}
}

// P10.1: nothing is no option, and that may be.
func TestReadNothing(t *testing.T) {
	for _, b := range [][]byte{nil, {}} {
		if l, e := opts.Read(b); e != api.OK || len(l) != 0 {
			t.Errorf("%v, %d", l, e)
		}
	}
}

// P10.1: a length that isn't there, alone and behind options, whatever the type.
func TestReadNoLength(t *testing.T) {
	for c := range 256 {
		areNone(t, []byte{byte(c)})
		areNone(t, []byte{7, 2, byte(c)})
		areNone(t, []byte{1, 4, 5, 220, byte(c)})
		areNone(t, append(spelt(many(5, 253)), byte(c)))
	}
}

// P10.1: lengths below two, of all types, with whatever behind.
func TestReadBelowTwo(t *testing.T) {
	for c := range 256 {
		for n := range byte(2) {
			areNone(t, []byte{byte(c), n})
			areNone(t, []byte{byte(c), n, 2})
			areNone(t, []byte{byte(c), n, 7, 2})
			areNone(t, []byte{7, 2, byte(c), n})
			areNone(t, []byte{byte(c), n, byte(c), 2, byte(c), 2})
			areNone(t, append([]byte{byte(c), n}, make([]byte, 300)...))
		}
	}
}

// P10.1: lengths beyond the end, by one and by more.
func TestReadBeyond(t *testing.T) {
	for _, b := range []string{
		"\x01\x03", "\x01\x04\x05", "\x01\x05\x05\xdc", "\x01\xff", "\x07\x02\x08\x03", "\x07\x02\x01\x04\x00", "\x05\x06\x01\x02\x03", "\x01\x04\x05\xdc\x05\x06\x01\x02\x03",
		"\x03\x80", "\x03\xff" + string(make([]byte, 252)), "\x03\xfe" + string(make([]byte, 251)), "\x07\x02\x03\xff" + string(make([]byte, 252)),
	} {
		areNone(t, []byte(b))
	}
}

// P10.1: all lengths that a byte tells, of one option with all numbers of bytes behind its head, and what is behind that.
func TestReadAllLengths(t *testing.T) {
	for size := range 300 {
		b := drawn(size + 2)
		for n := range 256 {
			b[1] = byte(n)
			readsAs(t, b)
			l, e := opts.Read(b[:min(len(b), max(n, 2))])
			if is := 2 <= n && n <= len(b); is && (e != api.OK || !alike(l, []api.Opt{opt(b[0], b[2:n]...)})) || !is && e != api.ErrForm {
				t.Fatalf("%d bytes that tell %d: %v, %d", len(b), n, l, e)
			}
		}
	}
}

// P10.1: all rows of a few bytes that matter.
func TestReadRows(t *testing.T) {
	rows := [][]byte{nil}
	for range 8 {
		var longer [][]byte
		for _, row := range rows {
			readsAs(t, row)
			for _, c := range []byte{0, 1, 2, 3, 5} {
				longer = append(longer, append(bytes.Clone(row), c))
			}
		}
		rows = longer
	}
}

// P10.1: drawn bytes, most of them small, so that many are options.
func TestReadDrawn(t *testing.T) {
	r := rand.New(rand.NewSource(2))
	for range 30000 {
		b := make([]byte, r.Intn(25))
		for i := range b {
			b[i] = byte(r.Intn(5) + r.Intn(3))
		}
		readsAs(t, b)
	}
	for n := range 2000 {
		readsAs(t, drawn(n))
	}
}

// P10.1: what is read has no bound; what is told has.
func TestReadLong(t *testing.T) {
	for _, l := range [][]api.Opt{many(749, 0), many(1000, 1), many(6, 253), append(many(5, 253), opt(1, drawn(220)...)), many(257, 253), many(40000, 0)} {
		if got, e := opts.Read(spelt(l)); e != api.OK || !alike(got, l) {
			t.Errorf("%d options: %d, %d", len(l), len(got), e)
		}
		areNone(t, append(spelt(l), 7))
		areNone(t, append(spelt(l), 7, 1))
		areNone(t, append(spelt(l), 7, 3))
	}
}

// P10.4: what is told as bytes is told back; and cut off within an option, it is none.
func TestBytesThenRead(t *testing.T) {
	for i, l := range lists() {
		b, e := opts.Bytes(l)
		if e != api.OK {
			t.Fatalf("%d: %d", i, e)
		}
		if got, e := opts.Read(b); e != api.OK || !alike(got, l) || !opts.Same(got, l) {
			t.Errorf("%d: %v, %d, not %v", i, got, e, l)
		}
		ends := map[int]int{0: 0} // up to which option the bytes are, by where they end
		for n := range l {
			ends[len(spelt(l[:n+1]))] = n + 1
		}
		for cut := range b {
			n, whole := ends[cut]
			got, e := opts.Read(b[:cut])
			if whole && (e != api.OK || !alike(got, l[:n])) || !whole && (e != api.ErrForm || got != nil) {
				t.Fatalf("%d, cut at %d: %v, %d", i, cut, got, e)
			}
		}
	}
}

// P10.4: what is read has these bytes.
func TestReadThenBytes(t *testing.T) {
	r := rand.New(rand.NewSource(3))
	read := 0
	for range 100000 {
		b := make([]byte, r.Intn(16))
		for i := range b {
			b[i] = byte(2 + r.Intn(3)*r.Intn(3))
		}
		l, e := opts.Read(b)
		if e != api.OK {
			continue
		}
		read++
		if again, e := opts.Bytes(l); e != api.OK || !bytes.Equal(again, b) {
			t.Fatalf("%v, read and told: %v, %d", b, again, e)
		}
	}
	if read < 10000 {
		t.Errorf("only %d rows of bytes were options", read)
	}
}
