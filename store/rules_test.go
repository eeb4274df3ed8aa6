package store_test

import (
	"bytes"
	"slices"
	"testing"

	"portreeve/api"
	"portreeve/disk"
	"portreeve/store"
)

// answers are all stores that the package hands out of a store.
func answers(s api.Store) map[string]api.Store {
	good, _ := store.Do(s, fail("eve", 1000))
	bad, _ := store.Do(s, pass("nobody"))
	check, _ := store.Check(s)
	found, _ := store.Found(s.D)
	anew, _ := store.Recover(s.D)
	out := map[string]api.Store{
		"Format": store.Format(), "Do": good, "Do that can't be": bad, "Sync": store.Sync(s), "Check": check, "Found": found, "Recover": anew,
	}
	for i, d := range store.Steps(s) {
		out["Steps "+string(rune('a'+i))] = api.Store{D: d}
	}
	return out
}

// spoil writes into all memory that a store has, its spare room too.
func spoil(s api.Store) {
	for _, b := range s.D.S[:cap(s.D.S)] {
		spoilBytes(b)
	}
	for _, w := range s.D.W[:cap(s.D.W)] {
		spoilBytes(w.B)
	}
	clear(s.D.S[:cap(s.D.S)])
	clear(s.D.W[:cap(s.D.W)])
	for _, b := range []api.Book{s.B, s.Safe} {
		fill(b.Open, api.Sess{Id: -1, User: "spoilt"})
		fill(b.Items, api.Item{Kind: -1})
		fill(b.Locks, api.Lock{User: "spoilt"})
	}
}

func spoilBytes(b []byte) {
	b = b[:cap(b)]
	for i := range b {
		b[i] ^= 0xFF
	}
}

func fill[T any](list []T, with T) {
	list = list[:cap(list)]
	for i := range list {
		list[i] = with
	}
}

// roomy is a list in memory of its own, with spare room behind it.
func roomy[T any](list []T, room T) []T {
	return append(slices.Clone(list), room, room, room)[:len(list)]
}

// roomyStore is a store in memory of its own, with spare room behind all its lists.
func roomyStore(s api.Store) api.Store {
	out := api.Store{Gen: s.Gen, Seq: s.Seq}
	for _, b := range s.D.S {
		out.D.S = append(out.D.S, roomy(b, 'x'))
	}
	for _, w := range s.D.W {
		out.D.W = append(out.D.W, api.Put{At: w.At, B: roomy(w.B, 'x')})
	}
	out.D.S, out.D.W = roomy(out.D.S, []byte("room")), roomy(out.D.W, api.Put{At: 7, B: []byte("room")})
	room := func(b api.Book) api.Book {
		return api.Book{Next: b.Next, Open: roomy(b.Open, api.Sess{Id: 77}), Items: roomy(b.Items, api.Item{Id: 77}), Locks: roomy(b.Locks, api.Lock{N: 77})}
	}
	out.B, out.Safe = room(s.B), room(s.Safe)
	return out
}

// whole is a store with the spare room behind its lists as part of them.
func whole(s api.Store) api.Store {
	out := api.Store{Gen: s.Gen, Seq: s.Seq, B: wholeBook(s.B), Safe: wholeBook(s.Safe)}
	for _, b := range s.D.S[:cap(s.D.S)] {
		out.D.S = append(out.D.S, bytes.Clone(b[:cap(b)]))
	}
	for _, w := range s.D.W[:cap(s.D.W)] {
		out.D.W = append(out.D.W, api.Put{At: w.At, B: bytes.Clone(w.B[:cap(w.B)])})
	}
	return out
}

func wholeBook(b api.Book) api.Book {
	return cloneBook(api.Book{Next: b.Next, Open: b.Open[:cap(b.Open)], Items: b.Items[:cap(b.Items)], Locks: b.Locks[:cap(b.Locks)]})
}

// R3: nothing is written into what is handed in, nor into the spare room behind it, and nothing that is handed out shares memory with it.
func TestLeavesItsArguments(t *testing.T) {
	for _, x := range samples(t) {
		mine := roomyStore(x.s)
		was := whole(mine)
		for name, got := range answers(mine) {
			if !alike(whole(mine), was) {
				t.Fatalf("%s: %s wrote into what was handed in", x.name, name)
			}
			spoil(got)
			if !alike(whole(mine), was) {
				t.Fatalf("%s: %s shares memory with what was handed in", x.name, name)
			}
		}
	}
}

// R3: what is handed out stays as it is when what was handed in is written into.
func TestKeepsNothing(t *testing.T) {
	for _, x := range samples(t) {
		mine := clone(x.s)
		got, want := answers(mine), answers(x.s)
		spoil(mine)
		for name, y := range got {
			if !alike(y, want[name]) {
				t.Errorf("%s: %s changed with what was handed in", x.name, name)
			}
		}
	}
}

// R3: no two lists of what is handed out share memory: not what is and what is safe, nor the disks of steps.
func TestListsApart(t *testing.T) {
	for _, x := range samples(t) {
		want := answers(x.s)
		for name, got := range answers(x.s) {
			spoil(api.Store{B: got.B})
			if !alikeBooks(got.Safe, want[name].Safe) {
				t.Errorf("%s: %s: B and Safe share memory", x.name, name)
			}
			spoil(api.Store{D: got.D})
			if !alikeBooks(got.Safe, want[name].Safe) {
				t.Errorf("%s: %s: the disk and Safe share memory", x.name, name)
			}
		}
		steps := store.Steps(x.s)
		for i, d := range steps {
			for _, b := range d.S {
				fill(b, byte(i+1))
			}
			for _, w := range d.W {
				fill(w.B, byte(i+101))
			}
		}
		for i, d := range steps {
			for _, b := range d.S {
				if !bytes.Equal(b, bytes.Repeat([]byte{byte(i + 1)}, 128)) {
					t.Fatalf("%s: step %d shares a sector with another", x.name, i)
				}
			}
			for _, w := range d.W {
				if !bytes.Equal(w.B, bytes.Repeat([]byte{byte(i + 101)}, 128)) {
					t.Fatalf("%s: step %d shares a write with another", x.name, i)
				}
			}
		}
	}
}

// R3: two stores of one stay apart: what is done to the one isn't seen in the other.
func TestBranchesApart(t *testing.T) {
	for _, x := range samples(t) {
		if x.s.Seq == 30 {
			continue
		}
		a, b := did(t, x.s, fail("eve", 1000)), did(t, x.s, fail("eve", 2000))
		for _, y := range []struct {
			s  api.Store
			at int
		}{{a, 1000}, {b, 2000}} {
			w := y.s.D.W[len(y.s.D.W)-1]
			lock := y.s.B.Locks[slices.IndexFunc(y.s.B.Locks, func(l api.Lock) bool { return l.User == "eve" })]
			if len(y.s.D.W) != len(x.s.D.W)+1 || !bytes.Equal(w.B, record(t, x.s.Gen, x.s.Seq, fail("eve", y.at))) || lock.At != y.at {
				t.Errorf("%s: two ops of it are one", x.name)
			}
		}
	}
}

// R4: what is answered hangs on the arguments alone: asked again, it is the same.
func TestAgain(t *testing.T) {
	for _, x := range samples(t) {
		first := answers(x.s)
		for name, y := range answers(clone(x.s)) {
			if !alike(y, first[name]) {
				t.Errorf("%s: %s answers otherwise when asked again", x.name, name)
			}
		}
	}
}

// odd are values that are no stores: the chapter promises nothing of them but that calls end.
func odd(t *testing.T) []api.Store {
	s := did(t, store.Format(), ordinary()...)
	changes := []func(s *api.Store){
		func(s *api.Store) { *s = api.Store{} },
		func(s *api.Store) { s.D = api.Disk{} },
		func(s *api.Store) { s.D.S = s.D.S[:1] },
		func(s *api.Store) { s.D.S = s.D.S[:20] },
		func(s *api.Store) { s.D.S[1] = s.D.S[1][:5] },
		func(s *api.Store) { s.D.S[18] = nil },
		func(s *api.Store) { s.D.S[34] = append(s.D.S[34], 1) },
		func(s *api.Store) {
			s.D.W = append(s.D.W, api.Put{At: -1}, api.Put{At: 64, B: noughts()}, api.Put{At: 1, B: []byte("HD")})
		},
		func(s *api.Store) { s.Gen = 0 },
		func(s *api.Store) { s.Gen = -1 },
		func(s *api.Store) { s.Gen = -1 << 63 },
		func(s *api.Store) { s.Gen = 1000000001 },
		func(s *api.Store) { s.Gen = 1<<63 - 1 },
		func(s *api.Store) { s.Seq = -1 },
		func(s *api.Store) { s.Seq = 31 },
		func(s *api.Store) { s.Seq = -1 << 63 },
		func(s *api.Store) { s.B.Next = -1 },
		func(s *api.Store) { s.B.Open[0].User = "" },
		func(s *api.Store) { s.B.Items = slices.Repeat(s.B.Items, 50) },
		func(s *api.Store) { s.Safe.Open = []api.Sess{{}, {}} },
	}
	var out []api.Store
	for _, change := range changes {
		x := clone(s)
		change(&x)
		out = append(out, x)
	}
	return out
}

// R1, R3: no call panics, nor writes into what it is handed, whatever it is.
func TestOddEnds(t *testing.T) {
	for i, s := range odd(t) {
		was := clone(s)
		for name, x := range answers(s) {
			if !store.Same(x, x) {
				t.Errorf("%d: %s isn't the same as itself", i, name)
			}
			store.Same(x, s)
			store.Same(s, x)
		}
		for _, d := range []api.Disk{s.D, disk.Flush(s.D), disk.Crash(s.D, []bool{true})} {
			if x, e := store.Found(d); e != api.OK && (e != api.ErrDisk || !isNothing(x)) {
				t.Errorf("%d: Found = %d, %+v", i, e, x)
			}
			if x, e := store.Recover(d); e != api.OK && (e != api.ErrDisk || !isNothing(x)) {
				t.Errorf("%d: Recover = %d, %+v", i, e, x)
			}
		}
		if !alike(s, was) {
			t.Errorf("%d: written into", i)
		}
	}
}
