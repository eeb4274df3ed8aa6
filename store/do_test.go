package store_test

import (
	"bytes"
	"math/rand"
	"testing"

	"portreeve/api"
	"portreeve/book"
	"portreeve/disk"
	"portreeve/store"
)

// P6.1: a new store is of generation 1, with a head and a snapshot of nothing on side 1, all flushed, by hand.
func TestFormat(t *testing.T) {
	s := store.Format()
	if s.Gen != 1 || s.Seq != 0 || !alikeBooks(s.B, api.Book{}) || !alikeBooks(s.Safe, api.Book{}) {
		t.Errorf("%d, %d, %+v, %+v", s.Gen, s.Seq, s.B, s.Safe)
	}
	want := disk.New()
	copy(want.S[1], []byte{72, 68, 0, 0, 0, 1})
	if !disk.Right(s.D) || !alikeDisks(s.D, want) {
		t.Errorf("%v", s.D)
	}
	x, e := store.Check(api.Store{D: disk.New()})
	if e != api.OK || !alike(x, s) {
		t.Errorf("not what Check tells: %d, %+v", e, x)
	}
}

// P6.1: stores are the same, when all of them is.
func TestSame(t *testing.T) {
	all := samples(t)
	for i, a := range all {
		for j, b := range all {
			if got := store.Same(a.s, clone(b.s)); got != (i == j) {
				t.Errorf("%s and %s: %t", a.name, b.name, got)
			}
		}
	}
	changes := map[string]func(s *api.Store){
		"a byte of a sector":  func(s *api.Store) { s.D.S[63][127]++ },
		"a byte of a write":   func(s *api.Store) { s.D.W[0].B[127]++ },
		"a write's sector":    func(s *api.Store) { s.D.W[0].At++ },
		"a write less":        func(s *api.Store) { s.D.W = s.D.W[1:] },
		"Gen":                 func(s *api.Store) { s.Gen++ },
		"Seq":                 func(s *api.Store) { s.Seq++ },
		"B's Next":            func(s *api.Store) { s.B.Next++ },
		"B's Open":            func(s *api.Store) { s.B.Open[0].In++ },
		"B's Items":           func(s *api.Store) { s.B.Items = s.B.Items[1:] },
		"B's Locks":           func(s *api.Store) { s.B.Locks[0].N++ },
		"Safe's Next":         func(s *api.Store) { s.Safe.Next++ },
		"Safe's Open":         func(s *api.Store) { s.Safe.Open[0].User = "x" },
		"Safe's Items":        func(s *api.Store) { s.Safe.Items[0].Kind++ },
		"Safe's Locks":        func(s *api.Store) { s.Safe.Locks = nil },
		"B and Safe exchange": func(s *api.Store) { s.B, s.Safe = s.Safe, s.B },
	}
	a := did(t, store.Sync(did(t, store.Format(), ordinary()...)), fail("eve", 10))
	for what, change := range changes {
		b := clone(a)
		change(&b)
		if store.Same(a, b) || store.Same(b, a) {
			t.Errorf("%s is not seen", what)
		}
	}
	b := clone(store.Format())
	b.D.W, b.B.Open, b.Safe.Locks = []api.Put{}, []api.Sess{}, []api.Lock{}
	if !store.Same(store.Format(), b) {
		t.Error("lists without elements are not the same")
	}
}

// P6.2: each op's record is written behind the others, in the next of the sectors from 34 on, and the book is what it comes to; what is safe stays.
func TestDo(t *testing.T) {
	s := store.Format()
	want := clone(s)
	for i, o := range ordinary() {
		x, e := store.Do(s, o)
		want.D = wet(want.D, 34+i, record(t, 1, i, o))
		want.Seq, want.B = i+1, applied(t, want.B, o)
		if e != api.OK || !alike(x, want) {
			t.Fatalf("op %d: %d, %+v", i, e, x)
		}
		s = x
	}
	if !alikeBooks(s.B, known()) || !alikeBooks(s.Safe, api.Book{}) {
		t.Errorf("%+v, %+v", s.B, s.Safe)
	}
	first := s.D.W[0].B
	if !bytes.HasPrefix(first, []byte{82, 69, 0, 0, 0, 1, 0, 1, 0, 0, 0, 0, 2, 10, 0, 0, 2, 3, 97, 110, 110, 0}) {
		t.Errorf("the first record is %v", first)
	}
}

// P6.2: a record is of the store's own generation and number, in each generation, whichever store it is that comes before.
func TestDoOfSamples(t *testing.T) {
	for _, x := range samples(t) {
		if x.s.Seq == 30 {
			continue
		}
		o := fail("eve", 1000)
		want := clone(x.s)
		want.D = wet(want.D, 34+x.s.Seq, record(t, x.s.Gen, x.s.Seq, o))
		want.Seq, want.B = want.Seq+1, applied(t, want.B, o)
		if got, e := store.Do(x.s, o); e != api.OK || !alike(got, want) {
			t.Errorf("%s: %d, %+v", x.name, e, got)
		}
	}
}

// P6.2: the errors of chapter 4, with the store as it was.
func TestDoErrors(t *testing.T) {
	s := did(t, store.Format(), ordinary()...)
	busy := func(n int) api.Store {
		out := s
		for i := range n {
			out = did(t, out, fail("user "+string(rune('a'+i)), 0))
		}
		return out
	}
	rows := []struct {
		name string
		s    api.Store
		o    api.Op
		want api.Errno
	}{
		{"nothing", s, api.Op{}, api.ErrArg},
		{"kind 7", s, api.Op{Kind: 7, User: "u"}, api.ErrArg},
		{"no user", s, trimOfNobody(), api.ErrArg},
		{"link 8", s, open(8, 167772163, "u"), api.ErrArg},
		{"no address", s, open(1, 167772160, "u"), api.ErrArg},
		{"a link that is held", s, open(2, 167772163, "u"), api.ErrBusy},
		{"an address that is held", s, open(1, 167772166, "u"), api.ErrBusy},
		{"no session to count", s, interim(1, 9, 9), api.ErrNone},
		{"no session to close", s, stop(3, 9, 9, 9), api.ErrNone},
		{"octets that go back", s, interim(0, 1<<40, 6), api.ErrLess},
		{"octets that go back at the end", s, stop(0, 1, 7, 6), api.ErrLess},
		{"a failure of the past", s, fail("eve", 8), api.ErrLess},
		{"no failure", s, pass("bob"), api.ErrNone},
		{"no room for a failure", busy(7), fail("bob", 10), api.ErrFull},
	}
	for _, x := range rows {
		for _, y := range []api.Store{x.s, store.Sync(x.s)} {
			if got, e := store.Do(y, x.o); e != x.want || !alike(got, y) {
				t.Errorf("%s: %d, %+v", x.name, e, got)
			}
		}
	}
}

// trimOfNobody is a trim that may not be done.
func trimOfNobody() api.Op { return api.Op{Kind: api.OTrim} }

// P6.2: the thirtieth record is the last one; behind it all ops are ErrFull, those that can't be done too.
func TestDoFull(t *testing.T) {
	s := did(t, store.Format(), fails(29)...)
	if _, e := store.Do(s, pass("nobody")); e != api.ErrNone {
		t.Errorf("29 records: %d", e)
	}
	s = did(t, s, fail("u", 4))
	if s.Seq != 30 || s.D.W[29].At != 63 || s.B.Locks[0].N != 30 {
		t.Fatalf("%d, %+v", s.Seq, s.B)
	}
	for name, x := range map[string]api.Store{"full": s, "full and synced": store.Sync(s)} {
		for _, o := range []api.Op{fail("u", 4), fail("u", 3), pass("nobody"), trim(), {}, trimOfNobody(), open(8, 1, ""), interim(0, 0, 0)} {
			if got, e := store.Do(x, o); e != api.ErrFull || !alike(got, x) {
				t.Errorf("%s, %+v: %d", name, o, e)
			}
		}
	}
	if x := did(t, checked(t, s), fails(30)...); x.Seq != 30 || x.B.Locks[0].N != 60 {
		t.Errorf("behind Check: %d, %+v", x.Seq, x.B)
	}
}

// P6.2: behind Sync no write is left, and what is safe is what is.
func TestSync(t *testing.T) {
	for _, x := range samples(t) {
		want := api.Store{D: flushed(x.s.D), Gen: x.s.Gen, Seq: x.s.Seq, B: cloneBook(x.s.B), Safe: cloneBook(x.s.B)}
		got := store.Sync(x.s)
		if !alike(got, want) {
			t.Errorf("%s: %+v", x.name, got)
		}
		if again := store.Sync(got); !alike(again, got) {
			t.Errorf("%s: synced again it is another", x.name)
		}
	}
}

// P6.2: long rows of drawn ops, Syncs and Checks, held against chapter 4 and disks laid by hand.
func TestLongRuns(t *testing.T) {
	r := rand.New(rand.NewSource(62))
	seen := map[api.Errno]int{}
	for range 10 {
		s := store.Format()
		for range 250 {
			want := clone(s)
			switch n := r.Intn(40); {
			case n == 0:
				s, want.D, want.Safe = store.Sync(s), flushed(want.D), want.B
			case n == 1:
				s = checked(t, s)
				want = api.Store{D: laid(t, want), Gen: want.Gen + 1, B: want.B, Safe: want.B}
			default:
				o := drawn(r, s.B)
				b, e := book.Apply(s.B, o)
				if s.Seq == 30 {
					e = api.ErrFull
				}
				if e == api.OK {
					want.D, want.Seq, want.B = wet(want.D, 34+s.Seq, record(t, s.Gen, s.Seq, o)), s.Seq+1, b
				}
				x, got := store.Do(s, o)
				if got != e {
					t.Fatalf("%+v: %d, not %d", o, got, e)
				}
				s = x
				seen[e]++
			}
			if !alike(s, want) {
				t.Fatalf("%+v, not %+v", s, want)
			}
		}
	}
	for _, e := range []api.Errno{api.OK, api.ErrArg, api.ErrFull, api.ErrNone, api.ErrBusy, api.ErrLess} {
		if seen[e] == 0 {
			t.Errorf("no op came to %d", e)
		}
	}
}

// laid is the disk of a store behind a snapshot, by hand.
func laid(t *testing.T, s api.Store) api.Disk {
	t.Helper()
	d := flushed(s.D)
	gen := s.Gen + 1
	for i, b := range snapshot(t, s.B) {
		d.S[2+16*(gen%2)+i] = b
	}
	d.S[gen%2] = head(t, gen)
	return d
}
