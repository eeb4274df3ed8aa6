package stuff_test

import (
	"bytes"
	"math/rand"
	"strings"
	"testing"

	"portreeve/api"
	"portreeve/stuff"
)

// accms are accms: none, all bits, each bit alone, and a few more.
func accms() []uint32 {
	out := []uint32{0, 1<<32 - 1, 1<<31 | 1, 0x000A0000, 0x55555555, 0xAAAAAAAA}
	for i := range 32 {
		out = append(out, 1<<i)
	}
	return out
}

// everyByte are all bytes, in order.
func everyByte() []byte {
	out := make([]byte, 256)
	for i := range out {
		out[i] = byte(i)
	}
	return out
}

// samples are bytes of many lengths: the edges first, then drawn ones, the same in every run.
func samples() [][]byte {
	out := [][]byte{
		nil, {}, {0}, {94}, {93}, {125}, {126}, {127}, {255}, {125, 125}, {126, 126}, {126, 125}, {125, 126}, {125, 94}, {125, 93},
		everyByte(), bytes.Repeat([]byte{126}, 754), bytes.Repeat([]byte{125}, 755), bytes.Repeat([]byte{1}, 1508), bytes.Repeat([]byte{33}, 1509),
	}
	r := rand.New(rand.NewSource(7))
	for n := range 60 {
		b := make([]byte, n)
		r.Read(b)
		out = append(out, b)
		few := make([]byte, n)
		for i := range few {
			few[i] = []byte{126, 125, 94, 93, 0, 31, 32}[r.Intn(7)]
		}
		out = append(out, few)
	}
	return out
}

// rows are all rows of n of those bytes.
func rows(of []byte, n int) [][]byte {
	out := [][]byte{{}}
	for range n {
		var longer [][]byte
		for _, row := range out {
			for _, c := range of {
				longer = append(longer, append(bytes.Clone(row), c))
			}
		}
		out = longer
	}
	return out
}

// isAsked: does the accm ask for a byte to be escaped, by the chapter's words?
func isAsked(c byte, accm uint32) bool {
	if c == 126 || c == 125 {
		return true
	}
	return c < 32 && accm/(1<<c)%2 == 1
}

// escaped is what Escape should tell: the tests reckon by replacing, so that they don't repeat the package's own way.
func escaped(b []byte, accm uint32) []byte {
	var pairs []string
	for c := range 256 {
		if isAsked(byte(c), accm) {
			pairs = append(pairs, string([]byte{byte(c)}), string([]byte{125, byte(c) ^ 32}))
		}
	}
	return []byte(strings.NewReplacer(pairs...).Replace(string(b)))
}

// plain is what Plain should tell, and whether it tells anything: read from the next Esc to the one behind.
func plain(b []byte) ([]byte, bool) {
	if bytes.IndexByte(b, 126) >= 0 {
		return nil, false
	}
	var out []byte
	for {
		i := bytes.IndexByte(b, 125)
		if i < 0 {
			return append(out, b...), true
		}
		if i+1 == len(b) {
			return nil, false
		}
		out = append(out, b[:i]...)
		out = append(out, b[i+1]^32)
		b = b[i+2:]
	}
}

// frames is what All should tell: of what stands ahead of each Flag, up to the one ahead, all that isn't too long, and is plain.
func frames(b []byte) [][]byte {
	var out [][]byte
	parts := bytes.Split(b, []byte{126})
	for _, part := range parts[:len(parts)-1] {
		if len(part) == 0 || len(part) > 1508 {
			continue
		}
		if p, is := plain(part); is {
			out = append(out, p)
		}
	}
	return out
}

// alikeLists are lists of bytes that are the same.
func alikeLists(a, b [][]byte) bool {
	if len(a) != len(b) {
		return false
	}
	for i := range a {
		if !bytes.Equal(a[i], b[i]) {
			return false
		}
	}
	return true
}

// alike are lines that are the same, as the tests see it.
func alike(a, b api.Line) bool { return a.Long == b.Long && string(a.B) == string(b.B) }

// lines are lines that are right: to the edges of how long they are, with Esc at their end and elsewhere, and too long.
func lines() []api.Line {
	out := []api.Line{
		{}, {B: []byte{}}, {Long: true}, {B: []byte{}, Long: true},
		{B: []byte{1}}, {B: []byte{125}}, {B: []byte{125, 125}}, {B: []byte{125, 94}}, {B: []byte{1, 2, 125}}, {B: []byte{125, 125, 125}}, {B: []byte{0, 255, 32}},
	}
	for _, n := range []int{2, 3, 700, 1506, 1507, 1508} {
		out = append(out, api.Line{B: bytes.Repeat([]byte{9}, n)}, api.Line{B: append(bytes.Repeat([]byte{9}, n-1), 125)}, api.Line{B: append(bytes.Repeat([]byte{9}, n-2), 125, 1)})
	}
	return out
}

// odd are lines that aren't right: the chapter promises nothing of them but what its words say anyhow.
func odd() []api.Line {
	return []api.Line{
		{B: []byte{126}}, {B: []byte{1, 126, 2}}, {B: []byte{125, 126}}, {B: []byte{1}, Long: true}, {B: []byte{126}, Long: true},
		{B: bytes.Repeat([]byte{9}, 1509)}, {B: bytes.Repeat([]byte{9}, 5000)}, {B: bytes.Repeat([]byte{9}, 1509), Long: true},
	}
}

// isRight: is a line right, by the chapter's words?
func isRight(l api.Line) bool {
	return len(l.B) <= 1508 && bytes.IndexByte(l.B, 126) < 0 && (!l.Long || len(l.B) == 0)
}

// fedAll is a line behind all bytes, and what it tells of them.
func fedAll(t *testing.T, l api.Line, b []byte) (api.Line, [][]byte) {
	t.Helper()
	var out [][]byte
	for _, c := range b {
		next, f, is := stuff.Feed(l, c)
		if !is && f != nil {
			t.Fatalf("Feed(%v, %d) = %v, and no", l, c, f)
		}
		if is {
			out = append(out, f)
		}
		l = next
	}
	return l, out
}
