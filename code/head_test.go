package code_test

import (
	"bytes"
	"math"
	"testing"

	"portreeve/api"
	"portreeve/code"
)

// isNoHead asks what must be no head.
func isNoHead(t *testing.T, what string, b []byte) {
	t.Helper()
	if gen, e := code.ReadHead(b); e != api.ErrForm || gen != 0 {
		t.Errorf("%s: ReadHead = %d, %d", what, gen, e)
	}
}

// P5.3, P5.4: heads by hand, both ways; the chapter's example among them.
func TestHead(t *testing.T) {
	rows := map[int]string{
		1:          "4844 00000001",
		2:          "4844 00000002",
		255:        "4844 000000ff",
		256:        "4844 00000100",
		65535:      "4844 0000ffff",
		65536:      "4844 00010000",
		1 << 24:    "4844 01000000",
		305419896:  "4844 12345678",
		999999999:  "4844 3b9ac9ff",
		1000000000: "4844 3b9aca00",
	}
	for gen, as := range rows {
		want := spelt(t, 128, as)
		if b, e := code.HeadBytes(gen); e != api.OK || !bytes.Equal(b, want) {
			t.Errorf("HeadBytes(%d) = %x, %d", gen, b, e)
		}
		if got, e := code.ReadHead(want); e != api.OK || got != gen {
			t.Errorf("ReadHead of %d = %d, %d", gen, got, e)
		}
	}
	if b, e := code.HeadBytes(1); e != api.OK || !bytes.HasPrefix(b, []byte{72, 68, 0, 0, 0, 1}) {
		t.Errorf("HeadBytes(1) = %v, %d", b, e)
	}
}

// P5.3: there are no other generations.
func TestHeadBytesRefuses(t *testing.T) {
	for _, gen := range []int{0, -1, 1000000001, 1 << 32, 1<<32 + 1, math.MinInt, math.MaxInt} {
		if b, e := code.HeadBytes(gen); e != api.ErrArg || len(b) != 0 {
			t.Errorf("HeadBytes(%d) = %x, %d", gen, b, e)
		}
	}
}

// P5.3, P5.4: bytes that are no head.
func TestReadHeadRefuses(t *testing.T) {
	b := spelt(t, 128, "4844 00000001")
	isNoHead(t, "none", nil)
	isNoHead(t, "empty", []byte{})
	for n := range b {
		isNoHead(t, "too short", b[:n])
	}
	isNoHead(t, "one more", append(bytes.Clone(b), 0))
	isNoHead(t, "noughts", make([]byte, 128))
	isNoHead(t, "many noughts", make([]byte, 2048))
	isNoHead(t, "a record", recordOfKnown(t))
	isNoHead(t, "generation 0", spelt(t, 128, "4844"))
	isNoHead(t, "generation 10^9 and 1", spelt(t, 128, "4844 3b9aca01"))
	isNoHead(t, "generation of 32 bits", spelt(t, 128, "4844 ffffffff"))
	isNoHead(t, "generation with a high bit", spelt(t, 128, "4844 80000001"))
}

// P5.3, P5.4: a head with any byte at each place is what the chapter says of it.
func TestReadHeadEachByte(t *testing.T) {
	for _, b := range [][]byte{spelt(t, 128, "4844 00000001"), spelt(t, 128, "4844 3b9aca00"), recordOfKnown(t), make([]byte, 128)} {
		for at := range b {
			for x := range 256 {
				c := withByte(b, at, byte(x))
				want, ok := headOf(c)
				if !ok {
					isNoHead(t, "no head", c)
					continue
				}
				got, e := code.ReadHead(c)
				again, _ := code.HeadBytes(got)
				if e != api.OK || got != want || !bytes.Equal(again, c) {
					t.Errorf("ReadHead(%x) = %d, %d", c, got, e)
				}
			}
		}
	}
}
