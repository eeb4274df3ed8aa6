package pack_test

import (
	"bytes"
	"testing"

	"portreeve/api"
	"portreeve/pack"
)

// readsAs: does Read tell of b what it should?
func readsAs(t *testing.T, b []byte) {
	t.Helper()
	want, err := read(b)
	got, e := pack.Read(b)
	if e != err || !alike(got, want) || e != api.OK && !nothing(got) {
		t.Fatalf("Read of %d bytes, %v = %v, %d, not %v, %d", len(b), b[:min(len(b), 9)], got, e, want, err)
	}
}

// isNone: is b, as Read tells of it, no packet?
func isNone(t *testing.T, b []byte) {
	t.Helper()
	if p, e := pack.Read(b); e != api.ErrForm || !nothing(p) {
		t.Errorf("Read of %d bytes, %v = %v, %d", len(b), b[:min(len(b), 9)], p, e)
	}
}

// P9.1: fewer than four bytes, whatever they are.
func TestReadShort(t *testing.T) {
	isNone(t, nil)
	isNone(t, []byte{})
	for c := range 256 {
		isNone(t, []byte{byte(c)})
		isNone(t, []byte{byte(c), byte(c)})
		isNone(t, []byte{1, 2, byte(c)})
		isNone(t, []byte{byte(c), 1, 0})
	}
}

// P9.1: lengths by hand: below four, beyond the end, above MaxInfo, with bytes in the wrong order.
func TestReadLengths(t *testing.T) {
	for _, b := range [][]byte{
		{0, 0, 0, 0}, {1, 1, 0, 0}, {1, 1, 0, 1}, {1, 1, 0, 2}, {1, 1, 0, 3}, {1, 1, 0, 3, 7, 7, 7},
		{1, 1, 0, 5}, {1, 1, 0, 6, 7}, {1, 1, 0, 255}, {1, 1, 1, 0}, {1, 1, 4, 0}, {1, 1, 4, 0, 7, 7}, {1, 1, 1, 4}, {1, 1, 128, 4}, {1, 1, 255, 255}, {1, 1, 255, 252},
		append([]byte{1, 1, 4, 0}, make([]byte, 1019)...),
		append([]byte{1, 1, 5, 220}, make([]byte, 1495)...),
		append([]byte{1, 1, 5, 221}, make([]byte, 1496)...),
		append([]byte{1, 1, 5, 221}, make([]byte, 1497)...),
		append([]byte{1, 1, 5, 222}, make([]byte, 5000)...),
		append([]byte{1, 1, 255, 255}, make([]byte, 65531)...),
		append([]byte{1, 1, 255, 255}, make([]byte, 70000)...),
		append([]byte{1, 1, 0, 3}, make([]byte, 1496)...),
		make([]byte, 1500), make([]byte, 70000),
	} {
		isNone(t, b)
	}
	for n, b := range map[int][]byte{
		0:    append([]byte{1, 1, 0, 4}, make([]byte, 70000)...),
		1:    append([]byte{1, 1, 0, 5}, make([]byte, 1496)...),
		1020: append([]byte{1, 1, 4, 0}, make([]byte, 1020)...),
		1495: append([]byte{1, 1, 5, 219}, make([]byte, 1496)...),
		1496: append([]byte{1, 1, 5, 220}, make([]byte, 1496)...),
	} {
		if p, e := pack.Read(b); e != api.OK || !alike(p, api.Pkt{Code: 1, Id: 1, Data: make([]byte, n)}) {
			t.Errorf("length %d: %d bytes, %d", n+4, len(p.Data), e)
		}
	}
}

// P9.1: all lengths that two bytes tell, of rows to the edges of them and of what may be.
func TestReadAllLengths(t *testing.T) {
	for _, n := range []int{4, 5, 6, 255, 256, 257, 1499, 1500, 1501, 2000, 65535, 65536, 65540} {
		b := drawn(n)
		for told := range 1 << 16 {
			b[2], b[3] = byte(told>>8), byte(told)
			readsAs(t, b)
		}
	}
}

// P9.1: rows of all sizes whose length is right, and one, two or 256 beside it.
func TestReadSizes(t *testing.T) {
	for n := 4; n < 1700; n++ {
		b := drawn(n)
		for _, by := range []int{0, -1, 1, -2, 2, -256, 256} {
			b[2], b[3] = byte((n+by)>>8), byte(n+by)
			readsAs(t, b)
		}
	}
}

// P9.1: all rows of a few bytes that matter.
func TestReadRows(t *testing.T) {
	rows := [][]byte{nil}
	for range 7 {
		var longer [][]byte
		for _, row := range rows {
			readsAs(t, row)
			for _, c := range []byte{0, 1, 4, 5, 255} {
				longer = append(longer, append(bytes.Clone(row), c))
			}
		}
		rows = longer
	}
}

// P9.4: what is told as bytes is told back, whatever stands behind.
func TestBytesThenRead(t *testing.T) {
	for _, p := range packets() {
		b, e := pack.Bytes(p)
		if e != api.OK {
			t.Fatalf("%d with %d bytes: %d", p.Code, len(p.Data), e)
		}
		for _, behind := range [][]byte{nil, {0}, {1}, {0, 0, 0}, b, drawn(7), drawn(1500), make([]byte, 70000)} {
			if got, e := pack.Read(append(bytes.Clone(b), behind...)); e != api.OK || !alike(got, p) {
				t.Errorf("%d with %d bytes, and %d behind: %v, %d", p.Code, len(p.Data), len(behind), got, e)
			}
		}
	}
}

// P9.4: what is read has these bytes ahead, and nothing is read of fewer than these.
func TestReadThenBytes(t *testing.T) {
	for n := 4; n < 1700; n += 3 {
		b := drawn(n)
		for _, told := range []int{n, n - 1, n / 2, 4, 5, 1500, n % 256} {
			b[2], b[3] = byte(told>>8), byte(told)
			p, e := pack.Read(b)
			if e != api.OK {
				continue
			}
			again, e := pack.Bytes(p)
			if e != api.OK || len(again) != told || !bytes.HasPrefix(b, again) {
				t.Errorf("%d bytes that tell %d: %d bytes, %d", n, told, len(again), e)
			}
			isNone(t, b[:told-1])
		}
	}
}
