package frame_test

import (
	"bytes"
	"testing"

	"portreeve/api"
	"portreeve/frame"
	"portreeve/stuff"
)

// P8.3: by hand, with bytes that are escaped in the head, in what is held, and in the check sequence.
func TestSendKnown(t *testing.T) {
	for i, k := range []struct {
		f     api.Frame
		accm  uint32
		short bool
		want  []byte
	}{
		{api.Frame{Proto: 0x21}, 0, true, []byte{126, 33, 243, 192, 126}},
		{api.Frame{Proto: 0x21}, 0, false, []byte{126, 255, 3, 0, 33, 227, 230, 126}},
		{api.Frame{Proto: 0x21}, 0xFFFFFFFF, false, []byte{126, 255, 125, 35, 125, 32, 33, 227, 230, 126}},
		{api.Frame{Proto: 0x21}, 1, false, []byte{126, 255, 3, 125, 32, 33, 227, 230, 126}},
		{api.Frame{Proto: 0x8021}, 1, true, []byte{126, 128, 33, 125, 32, 179, 126}},
		{api.Frame{Proto: 0x8021, Info: []byte{126, 125, 17}}, 0, true, []byte{126, 128, 33, 125, 94, 125, 93, 17, 189, 7, 126}},
		{api.Frame{Proto: 0x8021, Info: []byte{126, 125, 17}}, 1<<17 | 1<<7, true, []byte{126, 128, 33, 125, 94, 125, 93, 125, 49, 189, 125, 39, 126}},
		{api.Frame{Proto: 0xC021, Info: []byte{1, 1, 0, 4}}, 0xFFFFFFFF, true, []byte{126, 255, 125, 35, 192, 33, 125, 33, 125, 33, 125, 32, 125, 36, 209, 181, 126}},
	} {
		if got, e := frame.Send(k.f, k.accm, k.short); e != api.OK || !bytes.Equal(got, k.want) {
			t.Errorf("%d: %v, %d, not %v", i, got, e, k.want)
		}
		if l, got := takeAll(t, api.Line{}, k.want); len(got) != 1 || !alike(got[0], k.f) || !alikeLines(l, api.Line{}) {
			t.Errorf("%d: %v", i, got)
		}
	}
}

// P8.3: the bytes of each frame, by many accms, as chapter 7 sends them.
func TestSendAll(t *testing.T) {
	for _, f := range frames() {
		for i, accm := range []uint32{0, 1, 1 << 31, 0x000A0000, 0xFFFFFFFF} {
			short := i%2 == 0
			got, e := frame.Send(f, accm, short)
			if e != api.OK || !bytes.Equal(got, escaped(sealed(bare(f, short)), accm)) {
				t.Fatalf("Send of %#x with %d bytes, %#x, %t: %v, %d", f.Proto, len(f.Info), accm, short, got, e)
			}
		}
	}
}

// P8.3: what has no bytes isn't sent: the error, and not even Flags.
func TestSendWrong(t *testing.T) {
	list := []api.Frame{{Proto: 0x21, Info: make([]byte, 1501)}, {Proto: 0xC021, Info: make([]byte, 9000)}, {Proto: 255, Info: make([]byte, 1501)}}
	for _, p := range noProtos() {
		list = append(list, api.Frame{Proto: p}, api.Frame{Proto: p, Info: []byte{1}})
	}
	for i, f := range list {
		for _, short := range []bool{false, true} {
			if got, e := frame.Send(f, 0, short); e != api.ErrArg || got != nil {
				t.Errorf("%d, %t: %v, %d", i, short, got, e)
			}
		}
	}
}

// P8.3: any line, with any byte: the line is Feed's, and the frame what Read tells of Feed's bytes, if it tells one.
func TestTakeAll(t *testing.T) {
	for i, l := range lines() {
		for c := range 256 {
			wantLine, b, is := stuff.Feed(l, byte(c))
			want, e := frame.Read(b)
			is = is && e == api.OK
			next, f, yes := frame.Take(l, byte(c))
			if !alikeLines(next, wantLine) || yes != is || is && !alike(f, want) || !is && !nothing(f) {
				t.Errorf("line %d, byte %d: %v, %v, %t", i, c, next, f, yes)
			}
		}
	}
}

// P8.3: a Flag, by hand: frames that can be read, and bytes that are a frame to chapter 7, but none here.
func TestTakeFlag(t *testing.T) {
	for i, k := range []struct {
		l    api.Line
		want api.Frame
		is   bool
	}{
		{api.Line{}, api.Frame{}, false},
		{api.Line{Long: true}, api.Frame{}, false},
		{api.Line{B: []byte{33}}, api.Frame{}, false},
		{api.Line{B: []byte{33, 243}}, api.Frame{}, false},
		{api.Line{B: []byte{33, 243, 193}}, api.Frame{}, false},
		{api.Line{B: []byte{33, 243, 192, 125}}, api.Frame{}, false},
		{api.Line{B: []byte{33, 243, 192}}, api.Frame{Proto: 0x21}, true},
		{api.Line{B: []byte{125, 1, 243, 192}}, api.Frame{Proto: 0x21}, true},
		{api.Line{B: []byte{0, 0}}, api.Frame{}, false},
		{api.Line{B: sealed([]byte{255, 3})}, api.Frame{}, false},
		{api.Line{B: sealed([]byte{128})}, api.Frame{}, false},
		{api.Line{B: sealed([]byte{128, 32})}, api.Frame{}, false},
		{api.Line{B: sealed(append([]byte{33}, make([]byte, 1500)...))}, api.Frame{Proto: 0x21, Info: make([]byte, 1500)}, true},
		{api.Line{B: sealed(append([]byte{33}, make([]byte, 1501)...))}, api.Frame{}, false},
		{api.Line{B: sealed(append([]byte{255, 3, 192, 33}, make([]byte, 1502)...))}, api.Frame{}, false},
	} {
		next, f, is := frame.Take(k.l, 126)
		if !alikeLines(next, api.Line{}) || is != k.is || !alike(f, k.want) || !is && !nothing(f) {
			t.Errorf("%d: %v, %v, %t", i, next, f, is)
		}
	}
}

// P8.4: what is sent is taken as it was, short or not, whatever stood ahead of it up to the Flag, if it is short enough for a line.
func TestSendThenTake(t *testing.T) {
	for _, f := range frames() {
		for i, accm := range []uint32{0, 0xFFFFFFFF, 0x00005555, 0} {
			short := i < 2
			sent, e := frame.Send(f, accm, short)
			if e != api.OK || len(sent)-2 > 1508 {
				continue
			}
			l, got := takeAll(t, api.Line{}, sent)
			if len(got) != 1 || !alike(got[0], f) || !alikeLines(l, api.Line{}) {
				t.Fatalf("%#x with %d bytes, %#x, %t: %d frames", f.Proto, len(f.Info), accm, short, len(got))
			}
		}
	}
}

// P8.4: frames in a row come in order, with rubbish ahead of each that is none, and with one Flag between two.
func TestSendMany(t *testing.T) {
	var sent []byte
	var want []api.Frame
	for i, p := range protos() {
		for n := range 12 {
			f := api.Frame{Proto: p, Info: drawn(n)}
			b, _ := frame.Send(f, uint32(i), i%2 == 0)
			if n%3 == 0 {
				b = b[1:] // the Flag that ends the one ahead begins this one
			} else {
				sent = append(sent, []byte{33, 125, 2, byte(n), 125}[:n%6]...)
			}
			if i == 0 && n == 0 {
				sent = append(sent, 126)
			}
			sent = append(sent, b...)
			want = append(want, f)
		}
	}
	l, got := takeAll(t, api.Line{}, sent)
	if len(got) != len(want) || !alikeLines(l, api.Line{}) {
		t.Fatalf("%d frames, not %d", len(got), len(want))
	}
	for i := range got {
		if !alike(got[i], want[i]) {
			t.Errorf("%d: %v, not %v", i, got[i], want[i])
		}
	}
}

// P8.4: as much as may be held comes, behind whatever line there was; where a line is too long by what is escaped, none does, and what follows does.
func TestSendLong(t *testing.T) {
	for _, l := range lines() {
		_, ahead := takeAll(t, l, []byte{126})
		f := api.Frame{Proto: 0x21, Info: bytes.Repeat([]byte{65}, 1500)}
		sent, _ := frame.Send(f, 0, false)
		if _, got := takeAll(t, l, sent); len(got) != len(ahead)+1 || !alike(got[len(ahead)], f) {
			t.Errorf("%d frames", len(got))
		}
		long, e := frame.Send(api.Frame{Proto: 0x21, Info: bytes.Repeat([]byte{126}, 1500)}, 0, false)
		if e != api.OK || len(long) < 3000 {
			t.Fatalf("%d bytes, %d", len(long), e)
		}
		if _, got := takeAll(t, l, append(bytes.Clone(long), sent...)); len(got) != len(ahead)+1 || !alike(got[len(ahead)], f) {
			t.Errorf("%d frames", len(got))
		}
	}
}
