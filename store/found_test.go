package store_test

import (
	"bytes"
	"testing"

	"portreeve/api"
	"portreeve/book"
	"portreeve/disk"
	"portreeve/store"
)

// isLost asks what must not be found.
func isLost(t *testing.T, what string, d api.Disk) {
	t.Helper()
	if s, e := store.Found(d); e != api.ErrDisk || !isNothing(s) {
		t.Errorf("%s: Found = %d, %+v", what, e, s)
	}
	if s, e := store.Recover(d); e != api.ErrDisk || !isNothing(s) {
		t.Errorf("%s: Recover = %d, %+v", what, e, s)
	}
}

// isFound asks what must be found, and that Recover tells it closed, a generation on.
func isFound(t *testing.T, what string, d api.Disk, gen, seq int, b api.Book) {
	t.Helper()
	want := api.Store{D: d, Gen: gen, Seq: seq, B: b, Safe: b}
	if s, e := store.Found(d); e != api.OK || !alike(s, want) {
		t.Errorf("%s: Found = %d, %d, %d, %+v, %+v", what, e, s.Gen, s.Seq, s.B, s.Safe)
	}
	if gen == 1000000000 {
		return
	}
	want.B, want.Safe, want.Gen, want.Seq = book.Close(b), book.Close(b), gen+1, 0
	want.D = laid(t, api.Store{D: d, Gen: gen, B: want.B})
	if s, e := store.Recover(d); e != api.OK || !alike(s, want) {
		t.Errorf("%s: Recover = %d, %d, %d, %+v, %+v", what, e, s.Gen, s.Seq, s.B, s.Safe)
	}
}

// P6.4: what a store has written is found again, flushed or not, all of it.
func TestFoundOfSamples(t *testing.T) {
	for _, x := range samples(t) {
		isFound(t, x.name, x.s.D, x.s.Gen, x.s.Seq, x.s.B)
		isFound(t, x.name+", synced", store.Sync(x.s).D, x.s.Gen, x.s.Seq, x.s.B)
	}
}

// P6.4: disks on which no head is, or none on its own side.
func TestFoundNoHead(t *testing.T) {
	isLost(t, "new", disk.New())
	isLost(t, "an odd head in sector 0", sheet{}.with(0, head(t, 1)).disk())
	isLost(t, "an even head in sector 1", sheet{}.with(1, head(t, 2)).disk())
	isLost(t, "both exchanged", sheet{}.with(0, head(t, 7)).with(1, head(t, 6)).snap(t, 2, known()).snap(t, 18, known()).disk())
	isLost(t, "a head in sector 2", sheet{}.with(2, head(t, 2)).disk())
	isLost(t, "a snapshot alone", sheet{}.snap(t, 2, known()).snap(t, 18, known()).disk())
	isLost(t, "records alone", sheet{}.records(t, 1, ordinary()...).disk())
	isLost(t, "a record as head", sheet{}.with(0, record(t, 2, 0, pass("u"))).with(1, record(t, 1, 0, pass("u"))).disk())
	isLost(t, "a head with more behind it", sheet{}.with(0, append(head(t, 2)[:127], 1)).disk())
	isLost(t, "generation 0", sheet{}.with(0, []byte("HD")).disk())
	isLost(t, "a generation too great", sheet{}.with(1, []byte{72, 68, 0x3b, 0x9a, 0xca, 1}).disk())
	isLost(t, "a generation too great, and even", sheet{}.with(0, []byte{72, 68, 0x3b, 0x9a, 0xca, 2}).disk())
	isLost(t, "a head that is written over", wet(store.Format().D, 1, noughts()))
}

// P6.4: the greater generation of the heads that are on their side counts, whatever else is there.
func TestFoundHeads(t *testing.T) {
	one, two := applied(t, api.Book{}, fail("one", 1)), applied(t, api.Book{}, fail("two", 2))
	both := func(zero, other int) api.Disk {
		return sheet{}.with(0, head(t, zero)).with(1, head(t, other)).snap(t, 2, two).snap(t, 18, one).disk()
	}
	for _, x := range []struct {
		zero, other, gen int
		b                api.Book
	}{
		{2, 1, 2, two},
		{2, 3, 3, one},
		{8, 3, 8, two},
		{8, 255, 255, one},
		{256, 255, 256, two},
		{65536, 65535, 65536, two},
		{65536, 16777217, 16777217, one},
		{1000000000, 999999999, 1000000000, two},
		{999999998, 999999999, 999999999, one},
		{7, 5, 5, one}, // in sector 0 a head of the other side
		{6, 8, 6, two}, // in sector 1
		{7, 1, 1, one},
		{2, 1000000000, 2, two},
	} {
		isFound(t, "heads", both(x.zero, x.other), x.gen, 0, x.b)
	}
	isFound(t, "the head of side 0 alone", sheet{}.with(0, head(t, 2)).snap(t, 2, two).snap(t, 18, one).disk(), 2, 0, two)
	isFound(t, "the head of side 1 alone", sheet{}.with(1, head(t, 1)).snap(t, 2, two).snap(t, 18, one).disk(), 1, 0, one)
	isFound(t, "a head and another's wreck", sheet{}.with(0, append(head(t, 4)[:127], 9)).with(1, head(t, 1)).snap(t, 2, two).snap(t, 18, one).disk(), 1, 0, one)
	isFound(t, "a head that isn't flushed", wet(both(2, 1), 1, head(t, 3)), 3, 0, one)
	isFound(t, "noughts are the snapshot of nothing", sheet{}.with(0, head(t, 2)).disk(), 2, 0, api.Book{})
}

// P6.4: where the greater head has no snapshot, nothing is found, though the other has one.
func TestFoundNoSnapshot(t *testing.T) {
	whole := func() sheet {
		return sheet{}.with(0, head(t, 2)).with(1, head(t, 1)).snap(t, 2, known()).snap(t, 18, known())
	}
	isFound(t, "whole", whole().disk(), 2, 0, known())
	for i, b := range snapshot(t, known()) {
		for at := range b {
			x := bytes.Clone(b)
			x[at] ^= 128
			d := whole().with(2+i, x).disk()
			want := bytes.Join(d.S[2:18], nil)
			if _, is := bookOf(want); is {
				continue
			}
			isLost(t, "a spoilt snapshot", d)
		}
	}
	isLost(t, "its last sector isn't noughts", whole().with(17, bytes.Repeat([]byte{1}, 128)).disk())
	isLost(t, "its first sector is lost", whole().with(2, noughts()).disk())
	isLost(t, "its first sector is written over", wet(whole().disk(), 2, bytes.Repeat([]byte{255}, 128)))
	isLost(t, "the snapshot is on the other side", sheet{}.with(0, head(t, 2)).snap(t, 18, known()).with(2, []byte{1, 2, 3, 4, 5, 6, 7}).disk())
	isFound(t, "the other's snapshot is spoilt", whole().with(18, bytes.Repeat([]byte{255}, 128)).disk(), 2, 0, known())
}

// bookOf is the book that a side's bytes tell, if they do.
func bookOf(b []byte) (api.Book, bool) {
	d := sheet{}.disk()
	copy(d.S[1], []byte{72, 68, 0, 0, 0, 1})
	for i := range 16 {
		copy(d.S[18+i], b[128*i:])
	}
	s, e := store.Found(d)
	return s.B, e == api.OK
}

// P6.4: records are done from 0 on, as long as they are of the generation, of their own number, and can be done; how many is told.
func TestFoundRecords(t *testing.T) {
	ops := ordinary()
	for _, gen := range []int{1, 2, 257, 999999999, 1000000000} {
		for n := range len(ops) + 1 {
			isFound(t, "the first ones", ofGen(t, gen, api.Book{}, ops[:n]...), gen, n, applied(t, api.Book{}, ops[:n]...))
		}
	}
	spoils := map[string]func(i int) []byte{
		"lost":                func(i int) []byte { return noughts() },
		"of a generation ago": func(i int) []byte { return record(t, 4, i, ops[i]) },
		"of the next":         func(i int) []byte { return record(t, 6, i, ops[i]) },
		"of 256 more":         func(i int) []byte { return record(t, 261, i, ops[i]) },
		"of the next number":  func(i int) []byte { return record(t, 5, i+1, ops[i]) },
		"of another number":   func(i int) []byte { return record(t, 5, 29, ops[i]) },
		"a head":              func(i int) []byte { return head(t, 5) },
		"with more behind it": func(i int) []byte { return append(record(t, 5, i, ops[i])[:127], 7) },
		"of no kind":          func(i int) []byte { b := record(t, 5, i, ops[i]); b[7] = 0; return b },
		"that can't be done":  func(i int) []byte { return record(t, 5, i, pass("nobody")) },
		"of the past":         func(i int) []byte { return record(t, 5, i, interim(99, 0, 0)) },
	}
	for what, spoil := range spoils {
		for i := range ops {
			d := ofGen(t, 5, api.Book{}, ops...)
			want := applied(t, api.Book{}, ops[:i]...)
			isFound(t, what, wet(d, 34+i, spoil(i)), 5, i, want)
			d.S[34+i] = spoil(i)
			isFound(t, what, d, 5, i, want)
		}
	}
	d := ofGen(t, 5, api.Book{}, ops...)
	d.S[36], d.S[37] = d.S[37], d.S[36]
	isFound(t, "two exchanged", d, 5, 2, applied(t, api.Book{}, ops[:2]...))
}

// P6.4: all thirty records are done, and none behind a snapshot that has no room for what they say.
func TestFoundManyRecords(t *testing.T) {
	isFound(t, "thirty", ofGen(t, 3, api.Book{}, fails(30)...), 3, 30, api.Book{Locks: []api.Lock{{User: "u", N: 30, At: 4}}})
	full := api.Book{Next: 1, Items: []api.Item{{Kind: 1}, {Kind: 3}}, Locks: []api.Lock{{User: "u", N: 250, At: 4}}}
	isFound(t, "behind a snapshot", ofGen(t, 8, full, fails(30)...), 8, 30, api.Book{Next: 1, Items: full.Items, Locks: []api.Lock{{User: "u", N: 255, At: 4}}})
	var nine []api.Op
	for i := range 9 {
		nine = append(nine, fail(string(rune('a'+i)), 1))
	}
	nine = append(nine, pass("a"))
	isFound(t, "a ninth user", ofGen(t, 8, api.Book{}, nine...), 8, 8, applied(t, api.Book{}, nine[:8]...))
}

// P6.4: what is found is what stands when all writes are done, in order; the disk is left with them.
func TestFoundUnflushed(t *testing.T) {
	d := ofGen(t, 1, api.Book{}, fail("u", 1))
	d = wet(d, 35, record(t, 1, 1, fail("u", 2)))
	isFound(t, "a record", d, 1, 2, api.Book{Locks: []api.Lock{{User: "u", N: 2, At: 2}}})
	d = wet(d, 34, record(t, 1, 0, fail("v", 1)))
	isFound(t, "a record over another", d, 1, 2, api.Book{Locks: []api.Lock{{User: "v", N: 1, At: 1}, {User: "u", N: 1, At: 2}}})
	d = wet(d, 35, noughts())
	isFound(t, "noughts over a record", d, 1, 1, api.Book{Locks: []api.Lock{{User: "v", N: 1, At: 1}}})
	for i, b := range snapshot(t, known()) {
		d = wet(d, 2+i, b)
	}
	isFound(t, "a snapshot of which no head tells", d, 1, 1, api.Book{Locks: []api.Lock{{User: "v", N: 1, At: 1}}})
	d = wet(d, 0, head(t, 2))
	isFound(t, "a head", d, 2, 0, known())
}

// P6.4: a store that is found goes on where it was found, in the sector of the record that was lost; what is found next is what the sectors say, a record that outlived that one among it.
func TestFoundGoesOn(t *testing.T) {
	s := did(t, store.Format(), fail("a", 1), fail("b", 2), fail("c", 3))
	torn := disk.Crash(s.D, []bool{true, false, true})
	isFound(t, "torn", torn, 1, 1, api.Book{Locks: []api.Lock{{User: "a", N: 1, At: 1}}})
	more := did(t, found(t, torn), fail("d", 4))
	if want := wet(torn, 35, record(t, 1, 1, fail("d", 4))); !alikeDisks(more.D, want) || more.Gen != 1 || more.Seq != 2 || len(more.B.Locks) != 2 {
		t.Errorf("%d, %d, %+v", more.Gen, more.Seq, more.B)
	}
	isFound(t, "more", more.D, 1, 3, api.Book{Locks: []api.Lock{{User: "a", N: 1, At: 1}, {User: "d", N: 1, At: 4}, {User: "c", N: 1, At: 3}}})
	anew := did(t, recovered(t, torn), fail("d", 4))
	isFound(t, "begun anew", anew.D, 2, 1, api.Book{Locks: []api.Lock{{User: "a", N: 1, At: 1}, {User: "d", N: 1, At: 4}}})
}

// P6.4: Recover closes what is open, by hand, and goes on from there.
func TestRecover(t *testing.T) {
	s := did(t, store.Format(), ordinary()...)
	want := sheet{}.with(0, head(t, 2)).with(1, head(t, 1)).snap(t, 2, knownClosed()).records(t, 1, ordinary()...).disk()
	r := recovered(t, store.Sync(s).D)
	if !alike(r, api.Store{D: want, Gen: 2, B: knownClosed(), Safe: knownClosed()}) {
		t.Errorf("%+v", r)
	}
	again := recovered(t, r.D)
	if again.Gen != 3 || again.Seq != 0 || !alikeBooks(again.B, knownClosed()) || !alikeBooks(again.Safe, knownClosed()) {
		t.Errorf("%+v", again)
	}
	more := did(t, again, open(2, 167772162, "ann"))
	if x := found(t, more.D); x.Gen != 3 || x.Seq != 1 || x.B.Open[0].Id != 3 {
		t.Errorf("%+v", x)
	}
}

// P6.4: behind the greatest generation nothing begins anew, though it is found.
func TestRecoverLast(t *testing.T) {
	if x := recovered(t, ofGen(t, 999999999, known())); x.Gen != 1000000000 || !alikeBooks(x.B, knownClosed()) {
		t.Errorf("%+v", x)
	}
	for _, d := range []api.Disk{ofGen(t, 1000000000, known()), ofGen(t, 1000000000, api.Book{}, ordinary()...), wet(ofGen(t, 999999999, known()), 0, head(t, 1000000000))} {
		if s, e := store.Recover(d); e != api.ErrFull || !isNothing(s) {
			t.Errorf("%d, %+v", e, s)
		}
	}
}
