package stuff_test

import (
	"bytes"
	"math/rand"
	"testing"

	"portreeve/api"
	"portreeve/stuff"
)

// P7.2: a Flag: a line without anything, whatever it was, and the bytes, if they are plain, there are any, and it isn't Long.
func TestFeedFlag(t *testing.T) {
	for i, l := range append(lines(), odd()...) {
		want, is := plain(l.B)
		is = is && !l.Long && len(l.B) > 0
		next, got, yes := stuff.Feed(l, 126)
		if !alike(next, api.Line{}) || yes != is {
			t.Errorf("line %d: %v, %t", i, next, yes)
		}
		if is && !bytes.Equal(got, want) || !is && got != nil {
			t.Errorf("line %d: %v, not %v", i, got, want)
		}
	}
}

// P7.2: lines and frames by hand.
func TestFeedFlagKnown(t *testing.T) {
	for i, k := range []struct {
		l    api.Line
		want []byte
		is   bool
	}{
		{api.Line{}, nil, false},
		{api.Line{B: []byte{1}}, []byte{1}, true},
		{api.Line{B: []byte{1, 125, 94, 2}}, []byte{1, 126, 2}, true},
		{api.Line{B: []byte{125, 125}}, []byte{93}, true},
		{api.Line{B: []byte{125}}, nil, false},
		{api.Line{B: []byte{1, 2, 125}}, nil, false},
		{api.Line{Long: true}, nil, false},
		{api.Line{B: bytes.Repeat([]byte{4}, 1508)}, bytes.Repeat([]byte{4}, 1508), true},
		{api.Line{B: bytes.Repeat([]byte{125, 35}, 754)}, bytes.Repeat([]byte{3}, 754), true},
		{api.Line{B: []byte{1}, Long: true}, nil, false},
	} {
		next, got, is := stuff.Feed(k.l, 126)
		if !alike(next, api.Line{}) || is != k.is || !bytes.Equal(got, k.want) {
			t.Errorf("%d: %v, %v, %t", i, next, got, is)
		}
	}
}

// P7.2: any other byte: no frame, and the byte stands behind the others, or, if there are MaxLine already, or the line is Long, it is Long without any.
func TestFeedOther(t *testing.T) {
	for i, l := range append(lines(), odd()...) {
		for c := range 256 {
			if c == 126 {
				continue
			}
			want := api.Line{B: append(bytes.Clone(l.B), byte(c))}
			if l.Long || len(l.B) >= 1508 {
				want = api.Line{Long: true}
			}
			next, got, is := stuff.Feed(l, byte(c))
			if !alike(next, want) || got != nil || is {
				t.Errorf("line %d, byte %d: %v, %v, %t", i, c, next, got, is)
			}
		}
	}
}

// P7.2: how long a line may be, byte by byte: MaxLine bytes still come, one more doesn't, nor does all that follows, up to a Flag.
func TestFeedLong(t *testing.T) {
	for n := 1506; n < 1512; n++ {
		l, got := fedAll(t, api.Line{}, bytes.Repeat([]byte{8}, n))
		want := api.Line{B: bytes.Repeat([]byte{8}, n)}
		if n > 1508 {
			want = api.Line{Long: true}
		}
		if !alike(l, want) || got != nil {
			t.Errorf("%d bytes: %d, %t", n, len(l.B), l.Long)
		}
		l, got = fedAll(t, l, []byte{126, 9, 126})
		frames := [][]byte{want.B, {9}}
		if n > 1508 {
			frames = frames[1:]
		}
		if !alike(l, api.Line{}) || !alikeLists(got, frames) {
			t.Errorf("%d bytes and a Flag: %d frames", n, len(got))
		}
	}
}

// P7.2: an Esc counts as a byte of a line as well: what is too long as it comes doesn't come, though it would be short enough as it was.
func TestFeedLongEscaped(t *testing.T) {
	for n, is := range map[int]bool{753: true, 754: true, 755: false} {
		l, _ := fedAll(t, api.Line{}, bytes.Repeat([]byte{125, 94}, n))
		_, got, yes := stuff.Feed(l, 126)
		if yes != is || is && !bytes.Equal(got, bytes.Repeat([]byte{126}, n)) {
			t.Errorf("%d escaped: %d bytes, %t", n, len(got), yes)
		}
	}
}

// P7.2: of lines that are right come lines that are right, whichever byte it is.
func TestFeedRight(t *testing.T) {
	for i, l := range lines() {
		for c := range 256 {
			if next, _, _ := stuff.Feed(l, byte(c)); !isRight(next) {
				t.Errorf("line %d, byte %d: %v", i, c, next)
			}
		}
	}
}

// P7.2: lines are the same, whatever memory they are in; they differ by one byte, by how many there are, by Long.
func TestSame(t *testing.T) {
	all := append(lines(), odd()...)
	for i, a := range all {
		for j, b := range all {
			other := api.Line{B: bytes.Clone(b.B), Long: b.Long}
			if got, want := stuff.Same(a, other), alike(a, b); got != want {
				t.Errorf("lines %d and %d: %t", i, j, got)
			}
		}
		for k := range a.B {
			b := api.Line{B: bytes.Clone(a.B), Long: a.Long}
			b.B[k] ^= 128
			if stuff.Same(a, b) || stuff.Same(b, a) {
				t.Errorf("line %d: byte %d isn't told", i, k)
			}
		}
		b := api.Line{B: a.B, Long: !a.Long}
		more := api.Line{B: append(bytes.Clone(a.B), 0), Long: a.Long}
		if stuff.Same(a, b) || stuff.Same(b, a) || stuff.Same(a, more) || stuff.Same(more, a) {
			t.Errorf("line %d: Long, or a byte more, isn't told", i)
		}
	}
	if !stuff.Same(api.Line{}, api.Line{B: []byte{}}) || !stuff.Same(api.Line{B: make([]byte, 0, 9)}, api.Line{}) {
		t.Error("no bytes aren't the same as nil")
	}
}

// P7.3: frames by hand.
func TestAllKnown(t *testing.T) {
	for i, k := range []struct {
		b    []byte
		want [][]byte
	}{
		{nil, nil},
		{[]byte{126}, nil},
		{[]byte{126, 126, 126}, nil},
		{[]byte{1, 2, 3}, nil},
		{[]byte{1, 126}, [][]byte{{1}}},
		{[]byte{126, 1, 126}, [][]byte{{1}}},
		{[]byte{126, 1, 126, 2}, [][]byte{{1}}},
		{[]byte{126, 1, 126, 2, 3, 126}, [][]byte{{1}, {2, 3}}},
		{[]byte{1, 126, 126, 1, 126, 1, 126}, [][]byte{{1}, {1}, {1}}},
		{[]byte{126, 1, 125, 126, 2, 126}, [][]byte{{2}}},
		{[]byte{126, 125, 126, 94, 126}, [][]byte{{94}}},
		{[]byte{126, 125, 94, 126, 125, 93, 126}, [][]byte{{126}, {125}}},
	} {
		if got := stuff.All(k.b); !alikeLists(got, k.want) {
			t.Errorf("%d: %v", i, got)
		}
	}
}

// P7.3: all rows of a few bytes that matter.
func TestAllRows(t *testing.T) {
	for n := range 8 {
		for _, b := range rows([]byte{126, 125, 94, 1}, n) {
			if got, want := stuff.All(b), frames(b); !alikeLists(got, want) {
				t.Fatalf("All(%v) = %v, not %v", b, got, want)
			}
		}
	}
}

// P7.3: long rows, with frames about as long as they may be among them, are what Feed tells, byte by byte, and what stands between the Flags.
func TestAllLong(t *testing.T) {
	r := rand.New(rand.NewSource(73))
	for range 30 {
		var b []byte
		for range 12 {
			size := []int{r.Intn(6), 1506 + r.Intn(5), 3100}[r.Intn(3)]
			part := bytes.Repeat([]byte{byte(r.Intn(126))}, size)
			if size > 0 && r.Intn(2) == 0 {
				part[r.Intn(size)] = 125
			}
			b = append(append(b, part...), 126)
		}
		b = b[:len(b)-r.Intn(2)]
		got, want := stuff.All(b), frames(b)
		_, fed := fedAll(t, api.Line{}, b)
		if !alikeLists(got, want) || !alikeLists(got, fed) {
			t.Fatalf("%d frames, not %d; Feed told %d", len(got), len(want), len(fed))
		}
	}
}

// P7.3: all of it ends soon, however much comes: one that is far too long, and very many short ones.
func TestAllMuch(t *testing.T) {
	if got := stuff.All(bytes.Repeat([]byte{5}, 1<<24)); len(got) != 0 {
		t.Errorf("%d frames without a Flag", len(got))
	}
	if got := stuff.All(bytes.Repeat([]byte{5, 126}, 1<<20)); len(got) != 1<<20 || !bytes.Equal(got[1<<20-1], []byte{5}) {
		t.Errorf("%d frames of one byte", len(got))
	}
	frame := append(bytes.Repeat([]byte{5}, 1508), 126)
	if got := stuff.All(bytes.Repeat(frame, 1<<12)); len(got) != 1<<12 || len(got[1<<12-1]) != 1508 {
		t.Errorf("%d frames of 1508 bytes", len(got))
	}
}
