package md5_test

import (
	"bytes"
	ref "crypto/md5"
	"encoding/binary"
	"encoding/hex"
	"math"
	"math/bits"
	"math/rand"
	"testing"

	"portreeve/md5"
)

var begin = [4]uint32{0x67452301, 0xefcdab89, 0x98badcfe, 0x10325476}

// blockBySines is the state behind a block as RFC 1321 tells it: its words are taken of sines, and the state's words change places instead of going round.
func blockBySines(s [4]uint32, b []byte) [4]uint32 {
	turns := [][]int{{7, 12, 17, 22}, {5, 9, 14, 20}, {4, 11, 16, 23}, {6, 10, 15, 21}}
	now := s
	for i := 0; i < 64; i++ {
		a, x, y, z := (64-i)%4, (65-i)%4, (66-i)%4, (67-i)%4
		var f uint32
		var g int
		for bit := 0; bit < 32; bit++ {
			f |= pick(i/16, now[x]>>bit&1, now[y]>>bit&1, now[z]>>bit&1) << bit
		}
		switch i / 16 {
		case 0:
			g = i
		case 1:
			g = 1 + 5*i
		case 2:
			g = 5 + 3*i
		case 3:
			g = 7 * i
		}
		k := uint32(math.Floor(math.Abs(math.Sin(float64(i+1))) * (1 << 32)))
		m := binary.LittleEndian.Uint32(b[4*(g%16):])
		now[a] = now[x] + bits.RotateLeft32(now[a]+f+m+k, turns[i/16][i%4])
	}
	for i := range s {
		s[i] += now[i]
	}
	return s
}

// pick is one bit of a step's word, of three bits.
func pick(round int, x, y, z uint32) uint32 {
	switch {
	case round == 0 && x == 1, round == 1 && z == 0:
		return y
	case round == 0:
		return z
	case round == 1:
		return x
	case round == 2:
		return (x + y + z) % 2
	case x == 1 || z == 0:
		return 1 - y
	}
	return y
}

// padByHand is bytes, padded, a byte at a time.
func padByHand(b []byte) []byte {
	out := append(bytes.Clone(b), 128)
	for len(out)%64 != 56 {
		out = append(out, 0)
	}
	return binary.LittleEndian.AppendUint64(out, 8*uint64(len(b)))
}

// edges are lengths about a multiple of 64, where the padding needs a block more.
func edges() []int {
	return []int{0, 1, 55, 56, 57, 63, 64, 65, 119, 120, 127, 128, 183, 184, 8191, 8192, 8193, 1 << 21}
}

// samples are rows of many lengths: those of the edges, of noughts, of ones and drawn, then drawn ones, the same in every run.
func samples() [][]byte {
	r := rand.New(rand.NewSource(2))
	out := [][]byte{nil}
	for _, n := range edges() {
		drawn := make([]byte, n)
		r.Read(drawn)
		out = append(out, make([]byte, n), bytes.Repeat([]byte{0xFF}, n), drawn)
	}
	for n := range 300 {
		drawn := make([]byte, n)
		r.Read(drawn)
		out = append(out, drawn)
	}
	return out
}

// states are a digest's beginning, all noughts, all ones, one bit alone, and drawn ones.
func states() [][4]uint32 {
	const ones = 0xFFFFFFFF
	out := [][4]uint32{begin, {}, {ones, ones, ones, ones}}
	for i := range 128 {
		var s [4]uint32
		s[i/32] = 1 << (i % 32)
		out = append(out, s)
	}
	r := rand.New(rand.NewSource(3))
	for range 40 {
		out = append(out, [4]uint32{r.Uint32(), r.Uint32(), r.Uint32(), r.Uint32()})
	}
	return out
}

// blocks are all noughts, all ones, one byte alone at each place, and drawn ones.
func blocks() [][]byte {
	out := [][]byte{make([]byte, 64), bytes.Repeat([]byte{0xFF}, 64)}
	for i := range 64 {
		b := make([]byte, 64)
		b[i] = byte(i) + 1
		out = append(out, b)
	}
	r := rand.New(rand.NewSource(4))
	for range 40 {
		b := make([]byte, 64)
		r.Read(b)
		out = append(out, b)
	}
	return out
}

// P2.1: the digests of RFC 1321, and the chapter's example.
func TestSumKnown(t *testing.T) {
	known := map[string]string{
		"":                           "d41d8cd98f00b204e9800998ecf8427e",
		"a":                          "0cc175b9c0f1b6a831c399e269772661",
		"abc":                        "900150983cd24fb0d6963f7d28e17f72",
		"message digest":             "f96b697d7cb7938d525a2f31aaf161d0",
		"abcdefghijklmnopqrstuvwxyz": "c3fcd3d76192e4007dfb496cca67e13b",
		"ABCDEFGHIJKLMNOPQRSTUVWXYZabcdefghijklmnopqrstuvwxyz0123456789":                   "d174ab98d277d9f5a5611c2c9f419d9f",
		"12345678901234567890123456789012345678901234567890123456789012345678901234567890": "57edf4a22be3c955ac49da2e2107b67a",
	}
	for in, want := range known {
		d := md5.Sum([]byte(in))
		if got := hex.EncodeToString(d[:]); got != want {
			t.Errorf("Sum(%q) = %s, not %s", in, got, want)
		}
	}
	if d := md5.Sum(nil); !bytes.Equal(d[:4], []byte{212, 29, 140, 217}) {
		t.Errorf("Sum(nothing) = %v", d)
	}
}

// P2.1: rows of many lengths, held against another program's digests.
func TestSum(t *testing.T) {
	for _, b := range samples() {
		if got, want := md5.Sum(b), ref.Sum(b); got != want {
			t.Errorf("Sum of %d bytes = %x, not %x", len(b), got, want)
		}
	}
}

// P2.1: at the edges the padding has the chapter's bytes.
func TestPadKnown(t *testing.T) {
	for n, want := range map[int]int{0: 64, 1: 64, 55: 64, 56: 128, 63: 128, 64: 128, 119: 128, 120: 192} {
		if got := len(md5.Pad(make([]byte, n))); got != want {
			t.Errorf("%d bytes are padded to %d, not %d", n, got, want)
		}
	}
	want := make([]byte, 64)
	want[0] = 128
	if got := md5.Pad(nil); !bytes.Equal(got, want) {
		t.Errorf("Pad(nil) = %x", got)
	}
	want = append([]byte("abc"), want[:61]...)
	want[56] = 24
	if got := md5.Pad([]byte("abc")); !bytes.Equal(got, want) {
		t.Errorf("Pad(abc) = %x", got)
	}
}

// P2.1: rows of many lengths, held against a padding that is laid byte by byte.
func TestPad(t *testing.T) {
	for _, b := range samples() {
		if got, want := md5.Pad(b), padByHand(b); !bytes.Equal(got, want) {
			t.Errorf("Pad of %d bytes is another", len(b))
		}
	}
}

// P2.1: the bits are counted beyond 32 bits.
func TestPadLong(t *testing.T) {
	const n = 1<<29 + 5
	got := md5.Pad(make([]byte, n))
	want := []byte{40, 0, 0, 0, 1, 0, 0, 0}
	if len(got) != 1<<29+64 || got[n] != 128 || !bytes.Equal(got[len(got)-8:], want) {
		t.Errorf("%d bytes are padded to %d, and end with %v", n, len(got), got[len(got)-8:])
	}
}

// P2.1: states and blocks of all kinds, where sums go round too.
func TestBlock(t *testing.T) {
	for _, s := range states() {
		for _, b := range blocks() {
			if got, want := md5.Block(s, b), blockBySines(s, b); got != want {
				t.Fatalf("Block(%x, %x) = %x, not %x", s, b, got, want)
			}
		}
	}
}

// P2.1: a block that is a digest's only one leaves the digest's words.
func TestBlockKnown(t *testing.T) {
	b := make([]byte, 64)
	b[0] = 128
	want := [4]uint32{0xd98c1dd4, 0x04b2008f, 0x980980e9, 0x7e42f8ec}
	if got := md5.Block(begin, b); got != want {
		t.Errorf("Block = %x, not %x", got, want)
	}
}

// R1: what isn't of a block's length is no block, and no reason to panic.
func TestBlockWrong(t *testing.T) {
	for _, n := range []int{0, 1, 3, 4, 60, 63, 65, 128, 1000} {
		if got := md5.Block(begin, bytes.Repeat([]byte{7}, n)); got != begin {
			t.Errorf("Block of %d bytes = %x", n, got)
		}
	}
	if got := md5.Block(begin, nil); got != begin {
		t.Errorf("Block of nothing = %x", got)
	}
}

// P2.1: the same are only those that differ in no bit.
func TestSame(t *testing.T) {
	for _, b := range samples()[:60] {
		d := md5.Sum(b)
		if copied := d; !md5.Same(d, copied) {
			t.Errorf("%x isn't the same as itself", d)
		}
		for i := range 128 {
			other := d
			other[i/8] ^= 1 << (i % 8)
			if md5.Same(d, other) || md5.Same(other, d) {
				t.Errorf("%x is the same as %x", d, other)
			}
		}
	}
	if !md5.Same([16]byte{}, [16]byte{}) || md5.Same([16]byte{1, 2}, [16]byte{2, 1}) {
		t.Error("the same are told apart, or others aren't")
	}
}

// P2.2: what is padded begins with the bytes, and is a multiple of 64 long, no longer than it must be.
func TestPadded(t *testing.T) {
	for _, b := range samples() {
		p := md5.Pad(b)
		if !bytes.HasPrefix(p, b) {
			t.Errorf("Pad of %d bytes doesn't begin with them", len(b))
		}
		if more := len(p) - len(b); len(p)%64 != 0 || more < 9 || more > 72 {
			t.Errorf("Pad of %d bytes is %d long", len(b), len(p))
		}
	}
}

// alike are rows that would be padded alike, if the mark or the length weren't told as they are.
func alike() [][]byte {
	var out [][]byte
	for n := range 200 {
		out = append(out, make([]byte, n), bytes.Repeat([]byte{128}, n+1))
		marked := make([]byte, n+2)
		marked[0] = 128
		out = append(out, marked, append(make([]byte, n+1), 128))
	}
	for _, s := range []string{"a", "b", "abc", "abd"} {
		once := padByHand([]byte(s))
		out = append(out, []byte(s), []byte(s+"\x80"), []byte(s+"\x80\x00"), once[:56], once, once[:63], padByHand(once))
	}
	for n := 256; n <= 1<<16; n *= 2 {
		out = append(out, make([]byte, n), make([]byte, n+32))
	}
	return out
}

// P2.2: no two rows are padded alike.
func TestPaddedApart(t *testing.T) {
	rows := map[string]string{}
	for _, b := range append(alike(), samples()...) {
		p := string(md5.Pad(b))
		if other, ok := rows[p]; ok && other != string(b) {
			t.Errorf("rows of %d and %d bytes are padded alike", len(b), len(other))
		}
		rows[p] = string(b)
	}
}

// P2.2: a digest is what the blocks of the padded bytes come to, in order.
func TestSumOfBlocks(t *testing.T) {
	for _, b := range samples() {
		s := begin
		for p := md5.Pad(b); len(p) > 0; p = p[64:] {
			s = md5.Block(s, p[:64])
		}
		var want [16]byte
		for i, w := range s {
			binary.LittleEndian.PutUint32(want[4*i:], w)
		}
		if got := md5.Sum(b); !md5.Same(got, want) {
			t.Errorf("Sum of %d bytes = %x, not %x", len(b), got, want)
		}
	}
}

// R3: spare room behind the bytes is left alone, and what is padded shares nothing with them.
func TestPadLeavesItsBytes(t *testing.T) {
	room := bytes.Repeat([]byte{'x'}, 300)
	for _, n := range []int{0, 1, 55, 56, 63, 64, 119, 120} {
		p := md5.Pad(room[:n])
		p = p[:cap(p)]
		for i := range p {
			p[i] ^= 0xFF
		}
		other := md5.Pad(room[:n])
		if !bytes.Equal(room, bytes.Repeat([]byte{'x'}, 300)) {
			t.Fatalf("Pad of %d bytes wrote into them, or shares their memory", n)
		}
		if !bytes.Equal(other, padByHand(room[:n])) {
			t.Errorf("Pad of %d bytes hands out memory twice", n)
		}
	}
}

// R3: neither Block nor Sum writes into what is handed in.
func TestBlockAndSumLeaveTheirBytes(t *testing.T) {
	room := bytes.Repeat([]byte{'x'}, 300)
	for n := range 200 {
		md5.Sum(room[:n])
		md5.Block(begin, room[n:n+64])
	}
	if !bytes.Equal(room, bytes.Repeat([]byte{'x'}, 300)) {
		t.Error("Block or Sum wrote into what was handed in")
	}
}
