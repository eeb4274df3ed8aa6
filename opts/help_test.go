package opts_test

import (
	"bytes"
	"math/rand"

	"portreeve/api"
)

// opt is an option by its type and the bytes that it holds.
func opt(t byte, data ...byte) api.Opt { return api.Opt{Type: t, Data: data} }

// alikeOne are options that are the same, as the tests see it.
func alikeOne(a, b api.Opt) bool { return a.Type == b.Type && string(a.Data) == string(b.Data) }

// alike are lists that are the same, as the tests see it.
func alike(a, b []api.Opt) bool {
	if len(a) != len(b) {
		return false
	}
	for i := range a {
		if !alikeOne(a[i], b[i]) {
			return false
		}
	}
	return true
}

// nothing: is it an option without anything, as it comes with a no?
func nothing(o api.Opt) bool { return o.Type == 0 && o.Data == nil }

// spelt is options' bytes, by the chapter's words.
func spelt(l []api.Opt) []byte {
	var out bytes.Buffer
	for _, o := range l {
		out.WriteByte(o.Type)
		out.WriteByte(byte(2 + len(o.Data)))
		out.Write(o.Data)
	}
	return out.Bytes()
}

// mayBeTold: may these be told as bytes, by the chapter's words?
func mayBeTold(l []api.Opt) bool {
	all := 0
	for _, o := range l {
		if len(o.Data) > 253 {
			return false
		}
		all += 2 + len(o.Data)
	}
	return all <= 1496
}

// read is what Read should tell of bytes, by the chapter's words: one option, and then of what is behind it likewise.
func read(b []byte) ([]api.Opt, api.Errno) {
	switch {
	case len(b) == 0:
		return nil, api.OK
	case len(b) == 1, b[1] < 2, int(b[1]) > len(b):
		return nil, api.ErrForm
	}
	behind, e := read(b[b[1]:])
	if e != api.OK {
		return nil, e
	}
	return append([]api.Opt{{Type: b[0], Data: b[2:b[1]]}}, behind...), api.OK
}

// clone is a list in memory of its own.
func clone(l []api.Opt) []api.Opt {
	var out []api.Opt
	for _, o := range l {
		out = append(out, api.Opt{Type: o.Type, Data: bytes.Clone(o.Data)})
	}
	return out
}

// drawn are n bytes, the same in every run.
func drawn(n int) []byte {
	b := make([]byte, n)
	rand.New(rand.NewSource(int64(n))).Read(b)
	return b
}

// many are n options of one size, each with bytes of its own.
func many(n, size int) []api.Opt {
	var out []api.Opt
	data := drawn(n + size)
	for i := range n {
		out = append(out, opt(byte(i), bytes.Clone(data[i:i+size])...))
	}
	return out
}

// drawnList are up to ten options of few types, so that some come again.
func drawnList(r *rand.Rand) []api.Opt {
	var out []api.Opt
	for range r.Intn(11) {
		out = append(out, opt(byte(r.Intn(6)), drawn(r.Intn(6))...))
	}
	return out
}

// lists are lists that may be told as bytes: by hand, to the edges, and drawn.
func lists() [][]api.Opt {
	out := [][]api.Opt{
		nil, {}, {opt(0)}, {opt(255)}, {opt(1, 5, 220)}, {opt(7), opt(8)}, {opt(7), opt(7)}, {opt(0), opt(0), opt(0, 0)},
		{opt(1, 5, 220), opt(5, 1, 2, 3, 4), opt(7)}, {opt(3, 194, 35, 5), opt(5, 9, 8, 7, 6)}, {opt(3, 10, 0, 0, 1)},
		{opt(1, 1), opt(2, 2), opt(1, 3), opt(2, 4), opt(1, 5)}, {opt(5, 1), opt(5, 1), opt(5, 1)}, {opt(5, 1), opt(5, 2), opt(5)},
		{opt(9, drawn(253)...)}, {opt(9, drawn(252)...), opt(0)}, many(5, 253), append(many(5, 253), opt(77, drawn(219)...)),
		many(748, 0), many(374, 2), many(187, 6), many(8, 185), append(many(747, 0), opt(7)), append([]api.Opt{opt(8, drawn(253)...)}, many(620, 0)...),
	}
	r := rand.New(rand.NewSource(10))
	for range 100 {
		out = append(out, drawnList(r))
	}
	return out
}

// known are options with their bytes, by hand.
func known() []struct {
	l []api.Opt
	b string
} {
	long := drawn(253)
	return []struct {
		l []api.Opt
		b string
	}{
		{nil, ""},
		{[]api.Opt{opt(1, 5, 220)}, "\x01\x04\x05\xdc"},
		{[]api.Opt{opt(0)}, "\x00\x02"},
		{[]api.Opt{opt(255, 254)}, "\xff\x03\xfe"},
		{[]api.Opt{opt(7), opt(8)}, "\x07\x02\x08\x02"},
		{[]api.Opt{opt(8), opt(7)}, "\x08\x02\x07\x02"},
		{[]api.Opt{opt(3, 194, 35, 5), opt(5, 1, 2, 3, 4)}, "\x03\x05\xc2\x23\x05\x05\x06\x01\x02\x03\x04"},
		{[]api.Opt{opt(3, 10, 0, 0, 7)}, "\x03\x06\x0a\x00\x00\x07"},
		{[]api.Opt{opt(5, 1), opt(5, 2), opt(5, 1)}, "\x05\x03\x01\x05\x03\x02\x05\x03\x01"},
		{[]api.Opt{opt(2, 0, 0), opt(2)}, "\x02\x04\x00\x00\x02\x02"},
		{[]api.Opt{opt(9, long[:252]...)}, "\x09\xfe" + string(long[:252])},
		{[]api.Opt{opt(9, long...), opt(4)}, "\x09\xff" + string(long) + "\x04\x02"},
	}
}
