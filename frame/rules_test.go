package frame_test

import (
	"bytes"
	"testing"

	"portreeve/api"
	"portreeve/frame"
)

// answers are all bytes that the package hands out of a frame that holds b, of b as bytes, and of b on a line.
func answers(b []byte) map[string][]byte {
	out := map[string][]byte{}
	for _, p := range []uint16{0x21, 0x8021, 0xC021, 255} {
		f, name := api.Frame{Proto: p, Info: b}, string(rune(p))
		for _, short := range []bool{false, true} {
			if short {
				name += " short"
			}
			out["Bytes "+name], _ = frame.Bytes(f, short)
			out["Send "+name], _ = frame.Send(f, 0, short)
			out["Send by all "+name], _ = frame.Send(f, 0xFFFFFFFF, short)
		}
	}
	f, _ := frame.Read(b)
	out["Read"] = f.Info
	for name, c := range map[string]byte{"a byte": 1, "an Esc": 125, "a Flag": 126} {
		l, f, _ := frame.Take(api.Line{B: b}, c)
		out["Take's line by "+name], out["Take's frame by "+name] = l.B, f.Info
	}
	return out
}

// spoil writes into all memory that bytes have, their spare room too.
func spoil(b []byte) {
	b = b[:cap(b)]
	for i := range b {
		b[i] ^= 0x55
	}
}

// moreBytes are bytes that can be read, and others.
func moreBytes() [][]byte {
	out := infos()
	for _, k := range known {
		out = append(out, k.b)
	}
	for _, l := range lines() {
		out = append(out, l.B)
	}
	return out
}

// R3: nothing is written into what is handed in, nor into the spare room behind it, and nothing that is handed out shares memory with it.
func TestLeavesItsArguments(t *testing.T) {
	for i, b := range moreBytes() {
		whole := append(bytes.Clone(b), "room"...)
		was := bytes.Clone(whole)
		for name, got := range answers(whole[:len(b)]) {
			if !bytes.Equal(whole, was) {
				t.Fatalf("sample %d: %s wrote into what was handed in", i, name)
			}
			spoil(got)
			if !bytes.Equal(whole, was) {
				t.Fatalf("sample %d: %s shares memory with what was handed in", i, name)
			}
		}
	}
}

// R3: what is handed out stays as it is when what was handed in, or what else was handed out, is written into.
func TestKeepsNothing(t *testing.T) {
	for i, b := range moreBytes() {
		mine := append(bytes.Clone(b), "room"...)
		got, want := answers(mine[:len(b)]), answers(b)
		spoil(mine)
		for name, x := range got {
			if !bytes.Equal(x, want[name]) {
				t.Errorf("sample %d: %s changed with what was handed in", i, name)
			}
			spoil(x)
		}
	}
}

// R3: a frame stays as it is when the line goes on, and the line when the frame is written into.
func TestLinesApart(t *testing.T) {
	sent, _ := frame.Send(api.Frame{Proto: 0x21, Info: []byte{1, 2, 3}}, 0, true)
	l, _ := takeAll(t, api.Line{}, sent[:len(sent)-1])
	was := api.Line{B: bytes.Clone(l.B)}
	next, f, is := frame.Take(l, 126)
	next, _ = takeAll(t, next, []byte{7, 8, 9, 10, 11, 12})
	if !is || !bytes.Equal(f.Info, []byte{1, 2, 3}) || !alikeLines(l, was) {
		t.Errorf("%v of %v, changed by what came behind", f, l)
	}
	spoil(f.Info)
	if !bytes.Equal(next.B, []byte{7, 8, 9, 10, 11, 12}) || !alikeLines(l, was) {
		t.Errorf("%v of %v, changed by what became of the frame", next, l)
	}
	for range 40 {
		a, _, _ := frame.Take(l, 1)
		b, _, _ := frame.Take(l, 2)
		if n := len(l.B); a.B[n] != 1 || b.B[n] != 2 {
			t.Fatalf("two lines of one with %d bytes share memory", n)
		}
		l = b
	}
}

// R3: Same writes nothing.
func TestSameLeavesItsArguments(t *testing.T) {
	for _, f := range frames() {
		mine := api.Frame{Proto: f.Proto, Info: bytes.Clone(f.Info)}
		if frame.Same(mine, mine); !alike(mine, f) {
			t.Errorf("%#x with %d bytes: written into", f.Proto, len(f.Info))
		}
	}
}

// R4: what is answered hangs on the arguments alone: asked again, with other room behind, it is the same.
func TestAgain(t *testing.T) {
	for i, b := range moreBytes() {
		first := answers(b)
		for name, x := range answers(append(make([]byte, 0, len(b)+50), b...)) {
			if !bytes.Equal(x, first[name]) {
				t.Errorf("sample %d: %s answers otherwise when asked again", i, name)
			}
		}
	}
}

// R1: no call panics at a line that isn't right, nor at bytes and frames that are far too long.
func TestNoPanic(t *testing.T) {
	long := bytes.Repeat([]byte{33}, 100000)
	for _, l := range []api.Line{{B: []byte{126}}, {B: []byte{125, 126}}, {B: []byte{1}, Long: true}, {B: long}, {B: sealed(long)}, {B: long, Long: true}} {
		for _, c := range []byte{0, 33, 125, 126, 255} {
			if _, f, is := frame.Take(l, c); is || !nothing(f) {
				t.Errorf("%d bytes, %t, %d: %t", len(l.B), l.Long, c, is)
			}
		}
	}
	for _, f := range []api.Frame{{}, {Info: long}, {Proto: 0xFFFF, Info: long}, {Proto: 0x21, Info: long}} {
		frame.Bytes(f, true)
		frame.Send(f, 0xFFFFFFFF, false)
	}
	frame.Read(long)
	frame.Read(sealed(long))
}
