package store_test

import (
	"math/rand"
	"testing"

	"portreeve/api"
	"portreeve/book"
	"portreeve/disk"
	"portreeve/store"
)

// keptFirst is how many first ones are kept without one that isn't, of n.
func keptFirst(keep []bool, n int) int {
	for i := range min(n, len(keep)) {
		if !keep[i] {
			return i
		}
	}
	return min(n, len(keep))
}

// P6.5: the chapter's own example.
func TestCrashOfExample(t *testing.T) {
	s := did(t, store.Format(), fail("u", 1))
	isFound(t, "nothing kept", disk.Crash(s.D, nil), 1, 0, api.Book{})
	isFound(t, "kept", disk.Crash(s.D, []bool{true}), 1, 1, api.Book{Locks: []api.Lock{{User: "u", N: 1, At: 1}}})
	isFound(t, "synced", disk.Crash(store.Sync(s).D, nil), 1, 1, api.Book{Locks: []api.Lock{{User: "u", N: 1, At: 1}}})
}

// P6.5: of ordinary ops, synced behind each of them, with any of the others kept: what is found are the synced ones, and the first ones that are kept behind them.
func TestCrash(t *testing.T) {
	ops := ordinary()
	for safe := range len(ops) + 1 {
		for name, s := range map[string]api.Store{
			"Sync":  store.Sync(did(t, store.Format(), ops[:safe]...)),
			"Check": checked(t, did(t, store.Format(), ops[:safe]...)),
		} {
			rest := min(len(ops)-safe, 6)
			gen, seq := s.Gen, s.Seq
			s = did(t, s, ops[safe:safe+rest]...)
			for _, keep := range everyKeep(rest) {
				n := keptFirst(keep, rest)
				isFound(t, name, disk.Crash(s.D, keep), gen, seq+n, applied(t, api.Book{}, ops[:safe+n]...))
			}
		}
	}
}

// P6.5: a record that is lost is not made up for by one that stands at its place from a generation ago, nor by those behind it.
func TestCrashOverOldRecords(t *testing.T) {
	s := checked(t, did(t, store.Format(), fails(30)...))
	for i := range 30 {
		x := did(t, s, fails(30)...)
		keep := make([]bool, 30)
		for j := range keep {
			keep[j] = j != i
		}
		isFound(t, "a hole", disk.Crash(x.D, keep), 2, i, api.Book{Locks: []api.Lock{{User: "u", N: 30 + i, At: 4}}})
	}
	isFound(t, "all lost", disk.Crash(did(t, s, fails(30)...).D, nil), 2, 0, s.B)
}

// P6.5: a crash in the midst of Check: ahead of the first flush what is found is what a crash ahead of Check leaves, behind it all that Check was given.
func TestCrashInCheck(t *testing.T) {
	for _, safe := range []int{0, 4, 10} {
		for _, first := range []api.Store{store.Format(), checked(t, store.Format()), checked(t, checked(t, did(t, store.Format(), fails(30)...)))} {
			ops := append(ordinary(), fail("eve", 10))
			s := did(t, store.Sync(did(t, first, ops[:safe]...)), ops[safe:]...)
			for step, d := range store.Steps(s) {
				for _, keep := range keepsOf(len(d.W)) {
					n := len(ops)
					if step < 17 {
						n = safe + keptFirst(keep, len(ops)-safe)
					}
					gen, seq := s.Gen, n
					if step == 19 || step == 18 && len(keep) == 1 && keep[0] {
						gen, seq = s.Gen+1, 0
					}
					isFound(t, "a crash in Check", disk.Crash(d, keep), gen, seq, applied(t, first.B, ops[:n]...))
				}
			}
		}
	}
}

// P6.5: a crash in the midst of Recover, and one in the midst of beginning anew after that, leave what would have been recovered.
func TestCrashInRecover(t *testing.T) {
	s := did(t, store.Sync(did(t, store.Format(), ordinary()[:4]...)), ordinary()[4:]...)
	for _, keep := range [][]bool{nil, {true}, {true, true, false, true}, {true, true, true, true, true, true}} {
		d := disk.Crash(s.D, keep)
		want := book.Close(applied(t, api.Book{}, ordinary()[:4+len(keptOnes(keep))]...))
		for _, x := range recovering(t, d) {
			for _, keep := range keepsOf(len(x.W)) {
				y := disk.Crash(x, keep)
				r := recovered(t, y)
				if !alikeBooks(r.B, want) || !alikeBooks(r.Safe, want) || r.Seq != 0 || len(r.D.W) != 0 {
					t.Fatalf("%+v", r)
				}
				steps := recovering(t, y)
				for i, at := range []int{9, 16, 18} {
					again := disk.Crash(steps[at], keepsOf(len(steps[at].W))[i])
					if r := recovered(t, again); !alikeBooks(r.B, want) || !alikeBooks(r.Safe, want) {
						t.Fatalf("begun anew twice: %+v", r)
					}
				}
			}
		}
	}
}

// keptOnes are the first ones that are kept.
func keptOnes(keep []bool) []bool { return keep[:keptFirst(keep, len(keep))] }

// recovering are the disks while Recover lays its snapshot.
func recovering(t *testing.T, d api.Disk) []api.Disk {
	t.Helper()
	s := found(t, d)
	s.B, s.Safe = book.Close(s.B), book.Close(s.Safe)
	return store.Steps(s)
}

// P6.5: long rows of ops, Syncs and Checks, with crashes anywhere, in the midst of Check and of Recover too, held against the ops that were done.
func TestLongCrashes(t *testing.T) {
	r := rand.New(rand.NewSource(65))
	crashes := 0
	for range 12 {
		s := store.Format()
		// books are what stood behind each op, from the last that was synced on.
		books := []api.Book{{}}
		for range 150 {
			switch n := r.Intn(30); {
			case n < 2:
				s, books = store.Sync(s), books[len(books)-1:]
			case n < 4 || s.Seq == 30:
				s, books = checked(t, s), books[len(books)-1:]
			case n < 6:
				s = crashed(t, r, s, books)
				books = []api.Book{s.B}
				crashes++
			default:
				x, e := store.Do(s, drawn(r, s.B))
				if e == api.OK {
					books = append(books, x.B)
				}
				s = x
			}
			if !alikeBooks(s.Safe, books[0]) || !alikeBooks(s.B, books[len(books)-1]) {
				t.Fatal("a store isn't what was done to it")
			}
		}
	}
	if crashes < 50 {
		t.Errorf("%d crashes", crashes)
	}
}

// crashed is the store that is recovered behind a crash of s, and some more while it begins anew.
func crashed(t *testing.T, r *rand.Rand, s api.Store, books []api.Book) api.Store {
	t.Helper()
	d, all := s.D, false
	if r.Intn(2) == 0 {
		steps := store.Steps(s)
		at := r.Intn(len(steps))
		d, all = steps[at], at >= 17
	}
	keep := keepDrawn(r, len(d.W))
	n := len(books) - 1
	if !all {
		n = keptFirst(keep, n)
	}
	d = disk.Crash(d, keep)
	if f := found(t, d); !alikeBooks(f.B, books[n]) || !alikeBooks(f.Safe, books[n]) {
		t.Fatalf("found %+v, not %+v", f.B, books[n])
	}
	for range r.Intn(3) {
		steps := recovering(t, d)
		d = steps[r.Intn(len(steps))]
		d = disk.Crash(d, keepDrawn(r, len(d.W)))
	}
	out := recovered(t, d)
	if !alikeBooks(out.B, book.Close(books[n])) {
		t.Fatalf("recovered %+v, not %+v, closed", out.B, books[n])
	}
	return out
}

// keepDrawn is what is kept of n writes, drawn.
func keepDrawn(r *rand.Rand, n int) []bool {
	all := keepsOf(n)
	return all[r.Intn(len(all))]
}
