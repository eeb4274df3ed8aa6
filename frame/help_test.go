package frame_test

import (
	"bytes"
	"math/bits"
	"math/rand"
	"testing"

	"portreeve/api"
	"portreeve/frame"
)

// sealed is bytes with their check sequence behind: the tests reckon it by a division of turned bytes, so that they don't repeat the program's own way.
func sealed(b []byte) []byte {
	left := uint32(0xFFFF)
	for _, c := range b {
		left ^= uint32(bits.Reverse8(c)) << 8
		for range 8 {
			left <<= 1
			if left>>16 == 1 {
				left ^= 0x11021
			}
		}
	}
	sum := ^bits.Reverse16(uint16(left))
	return append(bytes.Clone(b), byte(sum%256), byte(sum/256))
}

// mayBe: may it be a protocol's number, by the chapter's words?
func mayBe(p int) bool {
	lower, higher := p%256, p/256
	return lower%2 == 1 && higher%2 == 0 && p != 255
}

// bare is a frame's bytes ahead of the check sequence, by the chapter's words.
func bare(f api.Frame, short bool) []byte {
	lower, higher := byte(f.Proto%256), byte(f.Proto/256)
	if !short || f.Proto == 0xC021 {
		return append([]byte{255, 3, higher, lower}, f.Info...)
	}
	if f.Proto < 256 {
		return append([]byte{lower}, f.Info...)
	}
	return append([]byte{higher, lower}, f.Info...)
}

// read is what Read should tell of bytes ahead of a right check sequence.
func read(b []byte) (api.Frame, api.Errno) {
	if len(b) >= 2 && b[0] == 255 && b[1] == 3 {
		b = b[2:]
	}
	if len(b) == 0 || b[0]%2 == 0 && len(b) == 1 {
		return api.Frame{}, api.ErrForm
	}
	p, n := int(b[0]), 1
	if p%2 == 0 {
		p, n = p*256+int(b[1]), 2
	}
	if !mayBe(p) {
		return api.Frame{}, api.ErrForm
	}
	if len(b)-n > 1500 {
		return api.Frame{}, api.ErrFull
	}
	return api.Frame{Proto: uint16(p), Info: b[n:]}, api.OK
}

// escaped is bytes as they are sent, between Flags.
func escaped(b []byte, accm uint32) []byte {
	out := []byte{126}
	for _, c := range b {
		if c == 126 || c == 125 || c < 32 && accm/(1<<c)%2 == 1 {
			out = append(out, 125, c^32)
		} else {
			out = append(out, c)
		}
	}
	return append(out, 126)
}

// alike are frames that are the same, as the tests see it.
func alike(a, b api.Frame) bool { return a.Proto == b.Proto && string(a.Info) == string(b.Info) }

// alikeLines are lines that are the same, as the tests see it.
func alikeLines(a, b api.Line) bool { return a.Long == b.Long && string(a.B) == string(b.B) }

// nothing: is it a frame without anything, as it comes with an error?
func nothing(f api.Frame) bool { return f.Proto == 0 && f.Info == nil }

// drawn are n bytes, the same in every run.
func drawn(n int) []byte {
	b := make([]byte, n)
	rand.New(rand.NewSource(int64(n))).Read(b)
	return b
}

// infos are what frames may hold: nothing, the bytes that mean something elsewhere, and as much as may be.
func infos() [][]byte {
	out := [][]byte{
		nil, {}, {0}, {3}, {33}, {126}, {125}, {255}, {255, 3}, {255, 3, 192, 33}, {125, 94}, {126, 126}, {0, 0}, {243, 192},
		bytes.Repeat([]byte{7}, 1499), bytes.Repeat([]byte{255}, 1500), drawn(1500),
	}
	for n := 1; n < 20; n++ {
		out = append(out, drawn(n))
	}
	return out
}

// protos are numbers that may be: those that have names, and edges of one byte and of two.
func protos() []uint16 {
	return []uint16{0xC021, 0xC223, 0x8021, 0x0021, 1, 3, 0x7D, 0x7F, 253, 0x0201, 0x02FF, 0x7E7D, 0xC023, 0xC221, 0xC0FF, 0xFE01, 0xFE21, 0xFEFF}
}

// noProtos are numbers that may not be.
func noProtos() []uint16 {
	return []uint16{0, 2, 32, 254, 255, 0x0100, 0x0101, 0x01FF, 0x0200, 0x0321, 0xC020, 0xC121, 0xFF00, 0xFF03, 0xFFFE, 0xFFFF}
}

// frames are frames that may be.
func frames() []api.Frame {
	var out []api.Frame
	for _, p := range protos() {
		for _, b := range infos() {
			out = append(out, api.Frame{Proto: p, Info: b})
		}
	}
	return out
}

// lines are lines that are right: without anything, with a part of a frame, with a whole one, with bytes that are none, and to the edges of how long they are.
func lines() []api.Line {
	out := []api.Line{
		{}, {B: []byte{}}, {Long: true}, {B: []byte{}, Long: true},
		{B: []byte{1}}, {B: []byte{125}}, {B: []byte{255, 3, 0, 33}}, {B: []byte{33, 243}}, {B: []byte{33, 243, 192}}, {B: []byte{33, 243, 193}},
		{B: []byte{0, 0}}, {B: []byte{32, 0, 0, 125}}, {B: sealed(append([]byte{33}, make([]byte, 1501)...))}, {B: sealed(append([]byte{33}, make([]byte, 1500)...))},
		{B: sealed([]byte{32})}, {B: sealed([]byte{255})}, {B: sealed([]byte{255, 3})}, {B: sealed([]byte{0, 255})}, {B: sealed(append([]byte{255, 3, 192, 33}, make([]byte, 1502)...))},
	}
	for n := 1505; n <= 1508; n++ {
		out = append(out, api.Line{B: bytes.Repeat([]byte{9}, n)}, api.Line{B: sealed(bytes.Repeat([]byte{9}, n-2))})
	}
	return out
}

// takeAll is a line behind all bytes, and the frames that come of them.
func takeAll(t *testing.T, l api.Line, b []byte) (api.Line, []api.Frame) {
	t.Helper()
	var out []api.Frame
	for _, c := range b {
		next, f, is := frame.Take(l, c)
		if !is && !nothing(f) {
			t.Fatalf("Take(%v, %d) = %v, and no", l, c, f)
		}
		if is {
			out = append(out, f)
		}
		l = next
	}
	return l, out
}
