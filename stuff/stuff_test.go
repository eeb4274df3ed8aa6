package stuff_test

import (
	"bytes"
	"testing"

	"portreeve/api"
	"portreeve/stuff"
)

// P7.1: bytes that are escaped by hand, and told back.
func TestEscapeKnown(t *testing.T) {
	for _, k := range []struct {
		b    []byte
		accm uint32
		want []byte
	}{
		{nil, 0, nil},
		{nil, 0xFFFFFFFF, nil},
		{[]byte{126}, 0, []byte{125, 94}},
		{[]byte{125}, 0, []byte{125, 93}},
		{[]byte{126, 125, 126}, 0, []byte{125, 94, 125, 93, 125, 94}},
		{[]byte{94, 93}, 0xFFFFFFFF, []byte{94, 93}},
		{[]byte{0, 31, 32, 33}, 0, []byte{0, 31, 32, 33}},
		{[]byte{0, 31, 32, 33}, 0xFFFFFFFF, []byte{125, 32, 125, 63, 32, 33}},
		{[]byte{0, 1, 2}, 1, []byte{125, 32, 1, 2}},
		{[]byte{0, 1, 2}, 2, []byte{0, 125, 33, 2}},
		{[]byte{31, 30, 63}, 1 << 31, []byte{125, 63, 30, 63}},
		{[]byte{17, 19, 17}, 0x000A0000, []byte{125, 49, 125, 51, 125, 49}},
		{[]byte{255, 3, 192, 33}, 0xFFFFFFFF, []byte{255, 125, 35, 192, 33}},
		{[]byte{128, 159, 158, 157, 254, 253}, 0xFFFFFFFF, []byte{128, 159, 158, 157, 254, 253}},
	} {
		if got := stuff.Escape(k.b, k.accm); !bytes.Equal(got, k.want) {
			t.Errorf("Escape(%v, %#x) = %v, not %v", k.b, k.accm, got, k.want)
		}
		if got, e := stuff.Plain(k.want); e != api.OK || !bytes.Equal(got, k.b) {
			t.Errorf("Plain(%v) = %v, %d, not %v", k.want, got, e, k.b)
		}
	}
}

// P7.1: each byte, by each accm, alone and among all others.
func TestEscapeAll(t *testing.T) {
	for _, accm := range accms() {
		for c := range 256 {
			b := byte(c)
			want := []byte{b}
			if isAsked(b, accm) {
				want = []byte{125, b ^ 32}
			}
			if got := stuff.Escape([]byte{b}, accm); !bytes.Equal(got, want) {
				t.Errorf("Escape(%d, %#x) = %v, not %v", c, accm, got, want)
			}
		}
		for i, b := range samples() {
			if got, want := stuff.Escape(b, accm), escaped(b, accm); !bytes.Equal(got, want) {
				t.Errorf("sample %d, by %#x: %v, not %v", i, accm, got, want)
			}
		}
	}
}

// P7.1: bytes that are plain by hand: behind an Esc each byte is turned, also one that nobody would have escaped, and an Esc too.
func TestPlainKnown(t *testing.T) {
	for _, k := range []struct{ b, want []byte }{
		{nil, nil},
		{[]byte{}, nil},
		{[]byte{0, 31, 32, 127, 255}, []byte{0, 31, 32, 127, 255}},
		{[]byte{125, 0}, []byte{32}},
		{[]byte{125, 125}, []byte{93}},
		{[]byte{125, 125, 125, 0}, []byte{93, 32}},
		{[]byte{125, 125, 0}, []byte{93, 0}},
		{[]byte{125, 125, 94}, []byte{93, 94}},
		{[]byte{125, 94}, []byte{126}},
		{[]byte{125, 94, 94}, []byte{126, 94}},
		{[]byte{125, 255, 125, 223}, []byte{223, 255}},
		{[]byte{65, 125, 65, 65}, []byte{65, 97, 65}},
	} {
		if got, e := stuff.Plain(k.b); e != api.OK || !bytes.Equal(got, k.want) {
			t.Errorf("Plain(%v) = %v, %d, not %v", k.b, got, e, k.want)
		}
	}
}

// P7.1: a Flag anywhere, behind an Esc too, or an Esc with nothing behind: no bytes at all.
func TestPlainWrong(t *testing.T) {
	for _, b := range [][]byte{
		{126}, {126, 1}, {1, 126}, {1, 126, 2}, {126, 126}, {125, 126}, {125, 126, 1}, {1, 125, 126}, {125, 94, 126}, {126, 125}, {125, 125, 126},
		{125}, {1, 125}, {125, 94, 125}, {125, 125, 125}, {125, 1, 125}, bytes.Repeat([]byte{125}, 5), bytes.Repeat([]byte{125}, 1507),
	} {
		if got, e := stuff.Plain(b); e != api.ErrForm || got != nil {
			t.Errorf("Plain(%v) = %v, %d", b, got, e)
		}
	}
	for i := range 1508 {
		b := bytes.Repeat([]byte{7}, 1508)
		b[i] = 126
		if got, e := stuff.Plain(b); e != api.ErrForm || got != nil {
			t.Errorf("a Flag at %d: %d bytes, %d", i, len(got), e)
		}
	}
}

// P7.1: all rows of a few bytes that matter, and drawn ones, however long.
func TestPlainAll(t *testing.T) {
	all := samples()
	for n := range 7 {
		all = append(all, rows([]byte{126, 125, 94, 93, 32}, n)...)
	}
	all = append(all, bytes.Repeat([]byte{125}, 100000), bytes.Repeat([]byte{125}, 100001), bytes.Repeat(everyByte()[:126], 3000))
	for _, b := range all {
		got, e := stuff.Plain(b)
		want, is := plain(b)
		if is && e != api.OK || !is && (e != api.ErrForm || got != nil) || !bytes.Equal(got, want) {
			t.Fatalf("Plain(%v) = %v, %d, not %v, %t", b, got, e, want, is)
		}
	}
}

// P7.1: the chapter's own example, and a Flag at either end alone.
func TestSend(t *testing.T) {
	if got := stuff.Send([]byte{126}, 0); !bytes.Equal(got, []byte{126, 125, 94, 126}) {
		t.Errorf("Send(126) = %v", got)
	}
	if got := stuff.Send(nil, 0xFFFFFFFF); !bytes.Equal(got, []byte{126, 126}) {
		t.Errorf("Send(nothing) = %v", got)
	}
	for _, accm := range accms() {
		for i, b := range samples() {
			want := append(append([]byte{126}, escaped(b, accm)...), 126)
			if got := stuff.Send(b, accm); !bytes.Equal(got, want) {
				t.Errorf("sample %d, by %#x: %v, not %v", i, accm, got, want)
			}
		}
	}
}

// P7.4: what is escaped is plain again, by any accm, and has no Flag.
func TestEscapeThenPlain(t *testing.T) {
	for _, accm := range accms() {
		for i, b := range append(samples(), rows([]byte{126, 125, 94, 0}, 4)...) {
			x := stuff.Escape(b, accm)
			if bytes.IndexByte(x, 126) >= 0 {
				t.Errorf("sample %d, by %#x: a Flag in %v", i, accm, x)
			}
			if got, e := stuff.Plain(x); e != api.OK || !bytes.Equal(got, b) {
				t.Errorf("sample %d, by %#x: %v, %d", i, accm, got, e)
			}
		}
	}
}

// P7.4: of what is sent, short enough, one frame comes, which is it, whatever stood ahead of it; what is too long doesn't come.
func TestSendThenFeed(t *testing.T) {
	for _, accm := range []uint32{0, 1, 0xFFFFFFFF} {
		for i, b := range samples() {
			if len(b) == 0 { // between two Flags there is no frame
				continue
			}
			for j, l := range append(lines(), odd()...) {
				_, want := fedAll(t, l, []byte{126}) // what stood ahead ends with the first Flag
				sent := stuff.Send(b, accm)
				if len(sent)-2 <= 1508 {
					want = append(want, b)
				}
				end, got := fedAll(t, l, sent)
				if !alikeLists(got, want) || !alike(end, api.Line{}) {
					t.Errorf("sample %d, by %#x, behind line %d: %v", i, accm, j, got)
				}
			}
		}
	}
}

// P7.4: many frames in a row, with rubbish ahead of each that is none, are told in order.
func TestSendMany(t *testing.T) {
	var all []byte
	var want [][]byte
	for i, b := range samples() {
		rubbish := []byte{1, 125, 2, byte(i)%90 + 3, 125}
		all = append(append(all, rubbish...), stuff.Send(b, uint32(i))...)
		if len(b) > 0 && len(escaped(b, uint32(i))) <= 1508 {
			want = append(want, b)
		}
	}
	if got := stuff.All(all); !alikeLists(got, want) {
		t.Errorf("%d frames, not %d", len(got), len(want))
	}
}
