package opts_test

import (
	"bytes"
	"testing"

	"portreeve/api"
	"portreeve/opts"
)

// answers are all options that the package hands out of a list, and of an option that is put to it.
func answers(l []api.Opt, o api.Opt) map[string][]api.Opt {
	out := map[string][]api.Opt{"Put": opts.Put(l, o), "Put of another": opts.Put(l, api.Opt{Type: 200, Data: o.Data})}
	for _, c := range someTypes() {
		found, _ := opts.Find(l, c)
		out["Find of "+string(rune(c))] = []api.Opt{found}
		out["Drop of "+string(rune(c))] = opts.Drop(l, c)
	}
	return out
}

// spoil writes into all memory that bytes have, their spare room too.
func spoil(b []byte) {
	b = b[:cap(b)]
	for i := range b {
		b[i] ^= 0x55
	}
}

// spoilAll writes into all memory that options have, and that their list has.
func spoilAll(l []api.Opt) {
	for _, o := range l {
		spoil(o.Data)
	}
	l = l[:cap(l)]
	for i := range l {
		l[i] = opt(99, 9, 9, 9)
	}
}

// roomy is a list that is the same, with spare room behind it and behind all that its options hold, all of which is the test's to look at.
func roomy(l []api.Opt) []api.Opt {
	out := make([]api.Opt, 0, len(l)+3)
	for _, o := range l {
		out = append(out, api.Opt{Type: o.Type, Data: append(bytes.Clone(o.Data), "room"...)[:len(o.Data)]})
	}
	copy(out[len(l):cap(out)], []api.Opt{opt(50, 1), opt(51, 2), opt(52, 3)})
	return out
}

// whole is a list that is the same as roomy's answer with the room behind it and behind what its options hold, in memory of its own.
func whole(l []api.Opt) []api.Opt {
	var out []api.Opt
	for _, o := range l[:cap(l)] {
		out = append(out, api.Opt{Type: o.Type, Data: bytes.Clone(o.Data[:cap(o.Data)])})
	}
	return append(out, opt(byte(len(l))))
}

// R3: nothing is written into what is handed in, nor into the spare room behind it, and nothing that is handed out shares memory with it.
func TestLeavesItsArguments(t *testing.T) {
	for i, l := range lists() {
		mine := roomy(l)
		put := roomy([]api.Opt{opt(5, 7, 7)})
		was, wasPut := whole(mine), whole(put)
		for name, got := range answers(mine, put[0]) {
			if !alike(whole(mine), was) || !alike(whole(put), wasPut) {
				t.Fatalf("%d: %s wrote into what was handed in", i, name)
			}
			spoilAll(got)
			if !alike(whole(mine), was) || !alike(whole(put), wasPut) {
				t.Fatalf("%d: %s shares memory with what was handed in", i, name)
			}
		}
		b, _ := opts.Bytes(mine)
		spoil(b)
		if !opts.Same(mine, mine) || !alike(whole(mine), was) {
			t.Fatalf("%d: Bytes or Same wrote into what was handed in, or shares memory with it", i)
		}
	}
}

// R3: what is handed out stays as it is when what was handed in, or what else was handed out, is written into.
func TestKeepsNothing(t *testing.T) {
	for i, l := range lists() {
		mine, put := roomy(l), roomy([]api.Opt{opt(5, 7, 7)})
		got, want := answers(mine, put[0]), answers(l, opt(5, 7, 7))
		b, _ := opts.Bytes(mine)
		spoilAll(mine)
		spoilAll(put)
		for name, x := range got {
			if !alike(x, want[name]) {
				t.Errorf("%d: %s changed with what was handed in", i, name)
			}
			spoilAll(x)
		}
		if !bytes.Equal(b, spelt(l)) {
			t.Errorf("%d: Bytes changed with what was handed in", i)
		}
	}
}

// R3: what is read shares no memory with the bytes, and no option of it with another; and Number writes nothing.
func TestReadLeavesItsArguments(t *testing.T) {
	for i, l := range lists() {
		room := append(spelt(l), "room"...)
		was := bytes.Clone(room)
		b := room[:len(room)-4]
		got, _ := opts.Read(b)
		other, _ := opts.Read(b)
		for n := range got {
			spoil(got[n].Data)
			if n+1 < len(got) && !alike(got[n+1:], l[n+1:]) {
				t.Fatalf("%d: option %d shares memory with those behind it", i, n)
			}
		}
		opts.Number(b)
		if !bytes.Equal(room, was) {
			t.Fatalf("%d: the bytes were written into", i)
		}
		spoil(b)
		if !alike(other, l) {
			t.Fatalf("%d: what was read changed with the bytes", i)
		}
	}
}

// R3: options that share memory with one another, or with the one that is put, come out apart.
func TestApart(t *testing.T) {
	data := []byte{1, 2, 3, 4}
	l := []api.Opt{{Type: 1, Data: data}, {Type: 2, Data: data}, {Type: 3, Data: data[1:]}}
	for i, got := range [][]api.Opt{opts.Put(l, api.Opt{Type: 9, Data: data}), opts.Put(l, api.Opt{Type: 1, Data: data}), opts.Drop(l, 9)} {
		want := clone(got)
		for n := range got {
			spoil(got[n].Data)
			if !alike(got[n+1:], want[n+1:]) {
				t.Errorf("%d: option %d shares memory with those behind it", i, n)
			}
		}
	}
	if !bytes.Equal(data, []byte{1, 2, 3, 4}) {
		t.Error("an option was written into")
	}
	a, b := opts.Four(7), opts.Four(7)
	spoil(a)
	if !bytes.Equal(b, []byte{0, 0, 0, 7}) {
		t.Error("two numbers' bytes share memory")
	}
}

// R4: what is answered hangs on the arguments alone: asked again, with other room behind, it is the same.
func TestAgain(t *testing.T) {
	for i, l := range lists() {
		first := answers(l, opt(5, 7, 7))
		for name, x := range answers(roomy(l), opt(5, 7, 7)) {
			if !alike(x, first[name]) {
				t.Errorf("%d: %s answers otherwise when asked again", i, name)
			}
		}
		b, e := opts.Bytes(l)
		again, err := opts.Bytes(roomy(l))
		if e != err || !bytes.Equal(b, again) {
			t.Errorf("%d: Bytes answers otherwise when asked again", i)
		}
		back, e := opts.Read(append(make([]byte, 0, len(b)+50), b...))
		if e != api.OK || !alike(back, l) {
			t.Errorf("%d: Read answers otherwise when asked again", i)
		}
	}
}

// R1: no call panics at options that are longer than they may be, nor at many; they are found, put and dropped all the same.
func TestNoPanic(t *testing.T) {
	for _, n := range []int{254, 255, 256, 1500, 65536, 100000} {
		long := opt(9, drawn(n)...)
		l := append(many(n, 1), long)
		if o, is := opts.Find([]api.Opt{long}, 9); !is || !alikeOne(o, long) {
			t.Errorf("%d bytes aren't found", n)
		}
		if got := opts.Put(l, long); len(got) != len(l) || !alikeOne(got[9], long) {
			t.Errorf("%d bytes aren't put", n)
		}
		if got := opts.Drop([]api.Opt{long, opt(1), long}, 9); !alike(got, []api.Opt{opt(1)}) {
			t.Errorf("%d bytes aren't dropped", n)
		}
		if !opts.Same(l, l) || opts.Same(l, l[1:]) || opts.Number(long.Data) != opts.Number(long.Data[n-4:]) {
			t.Errorf("%d bytes aren't the same as they are", n)
		}
		if b, e := opts.Bytes(l); e != api.ErrArg || b != nil {
			t.Errorf("%d bytes: %d bytes, %d", n, len(b), e)
		}
	}
}
