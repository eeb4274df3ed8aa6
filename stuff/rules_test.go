package stuff_test

import (
	"bytes"
	"testing"

	"portreeve/api"
	"portreeve/stuff"
)

// answers are all bytes that the package hands out of bytes.
func answers(b []byte) map[string][]byte {
	plain, _ := stuff.Plain(b)
	out := map[string][]byte{
		"Escape": stuff.Escape(b, 0), "Escape by all": stuff.Escape(b, 0xFFFFFFFF), "Plain": plain,
		"Send": stuff.Send(b, 0), "Send by all": stuff.Send(b, 0xFFFFFFFF),
	}
	for i, f := range stuff.All(b) {
		out["All "+string(rune('a'+i))] = f
	}
	for name, c := range map[string]byte{"a byte": 1, "an Esc": 125, "a Flag": 126} {
		l, f, _ := stuff.Feed(api.Line{B: b}, c)
		out["Feed's line by "+name], out["Feed's frame by "+name] = l.B, f
	}
	return out
}

// spoil writes into all memory that bytes have, their spare room too.
func spoil(b []byte) {
	b = b[:cap(b)]
	for i := range b {
		b[i] ^= 0x55
	}
}

// moreBytes are bytes of which many frames come, one, or none.
func moreBytes() [][]byte {
	out := append(samples(), []byte{1, 126, 2, 3, 126, 4, 125, 94, 126, 126, 5, 126})
	for _, l := range lines() {
		out = append(out, l.B)
	}
	return out
}

// R3: nothing is written into what is handed in, nor into the spare room behind it, and nothing that is handed out shares memory with it.
func TestLeavesItsArguments(t *testing.T) {
	for i, b := range moreBytes() {
		whole := append(bytes.Clone(b), "room"...)
		was := bytes.Clone(whole)
		for name, got := range answers(whole[:len(b)]) {
			if !bytes.Equal(whole, was) {
				t.Fatalf("sample %d: %s wrote into what was handed in", i, name)
			}
			spoil(got)
			if !bytes.Equal(whole, was) {
				t.Fatalf("sample %d: %s shares memory with what was handed in", i, name)
			}
		}
	}
}

// R3: what is handed out stays as it is when what was handed in is written into.
func TestKeepsNothing(t *testing.T) {
	for i, b := range moreBytes() {
		mine := append(bytes.Clone(b), "room"...)
		got, want := answers(mine[:len(b)]), answers(b)
		spoil(mine)
		for name, x := range got {
			if !bytes.Equal(x, want[name]) {
				t.Errorf("sample %d: %s changed with what was handed in", i, name)
			}
		}
	}
}

// R3: a frame is told in memory of its own: neither what comes behind it nor the other frames change with it.
func TestFramesApart(t *testing.T) {
	b := bytes.Repeat([]byte{1, 2, 3, 126, 4, 5, 126, 6, 126}, 20)
	got, want := stuff.All(b), stuff.All(b)
	for i := range got {
		spoil(got[i])
		for j := i + 1; j < len(got); j++ {
			if !bytes.Equal(got[j], want[j]) {
				t.Fatalf("frames %d and %d share memory", i, j)
			}
		}
	}
	l, _ := fedAll(t, api.Line{}, []byte{1, 2, 3})
	next, f, _ := stuff.Feed(l, 126)
	next, _ = fedAll(t, next, []byte{7, 8, 9, 10})
	if !bytes.Equal(f, []byte{1, 2, 3}) || !bytes.Equal(l.B, []byte{1, 2, 3}) {
		t.Errorf("%v of %v, changed by what came behind", f, l.B)
	}
	spoil(f)
	if !bytes.Equal(next.B, []byte{7, 8, 9, 10}) || !bytes.Equal(l.B, []byte{1, 2, 3}) {
		t.Errorf("%v of %v, changed by what became of the frame", next.B, l.B)
	}
}

// R3: two lines of one stay apart: what comes of the one isn't seen in the other, whatever room the line has.
func TestBranchesApart(t *testing.T) {
	l := api.Line{}
	for n := range 40 {
		a, _, _ := stuff.Feed(l, 1)
		b, _, _ := stuff.Feed(l, 2)
		want := bytes.Repeat([]byte{2}, n)
		if !bytes.Equal(l.B, want) || !bytes.Equal(a.B, append(bytes.Clone(want), 1)) || !bytes.Equal(b.B, append(bytes.Clone(want), 2)) {
			t.Fatalf("%d bytes: %v and %v of %v", n, a.B, b.B, l.B)
		}
		spoil(a.B)
		if !bytes.Equal(l.B, want) || !bytes.Equal(b.B, append(bytes.Clone(want), 2)) {
			t.Fatalf("%d bytes: lines share memory", n)
		}
		l = b
	}
}

// R3: Same writes nothing.
func TestSameLeavesItsArguments(t *testing.T) {
	for i, l := range lines() {
		mine := api.Line{B: bytes.Clone(l.B), Long: l.Long}
		stuff.Same(mine, mine)
		if !alike(mine, l) {
			t.Errorf("line %d: written into", i)
		}
	}
}

// R4: what is answered hangs on the arguments alone: asked again, it is the same.
func TestAgain(t *testing.T) {
	for i, b := range moreBytes() {
		first := answers(b)
		for name, x := range answers(append(make([]byte, 0, len(b)+50), b...)) {
			if !bytes.Equal(x, first[name]) {
				t.Errorf("sample %d: %s answers otherwise when asked again", i, name)
			}
		}
	}
}
