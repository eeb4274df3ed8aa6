package book_test

import (
	"slices"
	"testing"

	"portreeve/api"
	"portreeve/book"
)

// opsOf are ops of each kind, such as b may take and such as it may not.
func opsOf(b api.Book) []api.Op {
	out := []api.Op{
		open(1, api.Base+2, "u"), open(1, api.Base+3, "new"), open(6, api.Base+5, "u"), open(0, api.Base, "u"), open(8, api.Base, "u"), open(1, 0, "u"),
		fail("new", 1000000000), fail("a", 1000000000), fail("bob", 1000000000), fail("bob", 0), pass("a"), pass("h"), pass("bob"), pass("who"),
		trim(), {}, {Kind: 7, User: "u"}, interim(0, 0, 0), stop(0, 0, 0, 0), interim(1000000000, 1, 1), stop(1000000000, 1, 1, 1),
	}
	for _, s := range b.Open {
		out = append(out, interim(s.Id, s.In+1, s.Out+1), stop(s.Id, s.In, s.Out, 3), interim(s.Id, s.In-1, s.Out))
	}
	return out
}

// answers are all books that the package hands out of a book.
func answers(b api.Book) []api.Book {
	out := []api.Book{book.Close(b)}
	for _, o := range opsOf(b) {
		x, _ := book.Apply(b, o)
		out = append(out, x)
	}
	return out
}

// askAll asks what answers no book.
func askAll(b api.Book) {
	book.Right(b)
	book.Free(b)
	book.Same(b, b)
	book.Same(b, api.Book{})
	book.Same(api.Book{}, b)
}

// spoil writes into all memory that a book has, its spare room too.
func spoil(b api.Book) {
	for i := range b.Open[:cap(b.Open)] {
		b.Open[:cap(b.Open)][i] = api.Sess{Id: -9, Link: -9, Addr: 9, User: "spoilt", In: 9, Out: 9}
	}
	for i := range b.Items[:cap(b.Items)] {
		b.Items[:cap(b.Items)][i] = api.Item{Kind: -9, Id: -9, In: 9, Out: 9, Cause: -9}
	}
	for i := range b.Locks[:cap(b.Locks)] {
		b.Locks[:cap(b.Locks)][i] = api.Lock{User: "spoilt", N: -9, At: -9}
	}
}

// roomy is a book in memory with spare room behind all its lists, and whether all of that memory, the room too, is as it was.
func roomy(b api.Book) (api.Book, func() bool) {
	whole := clone(b)
	for range 3 {
		whole.Open = append(whole.Open, api.Sess{Id: 77, User: "room"})
		whole.Items = append(whole.Items, api.Item{Kind: 77})
		whole.Locks = append(whole.Locks, api.Lock{User: "room", N: 77})
	}
	was := clone(whole)
	part := api.Book{Next: b.Next, Open: whole.Open[:len(b.Open)], Items: whole.Items[:len(b.Items)], Locks: whole.Locks[:len(b.Locks)]}
	return part, func() bool { return alike(whole, was) }
}

// R3: nothing is written into what is handed in, nor into the spare room behind it, and nothing that is handed out shares memory with it.
func TestLeavesItsArguments(t *testing.T) {
	for i, b := range samples(t) {
		mine, untouched := roomy(b)
		askAll(mine)
		for j, x := range answers(mine) {
			if !untouched() {
				t.Fatalf("sample %d: answer %d wrote into what was handed in", i, j)
			}
			spoil(x)
			if !untouched() {
				t.Fatalf("sample %d: answer %d shares memory with what was handed in", i, j)
			}
		}
	}
}

// R3: what is handed out stays as it is when what was handed in is written into.
func TestKeepsNothing(t *testing.T) {
	for i, b := range samples(t) {
		mine, _ := roomy(b)
		got, want := answers(mine), answers(clone(b))
		spoil(mine)
		for j := range got {
			if !alike(got[j], want[j]) {
				t.Errorf("sample %d: answer %d changed with what was handed in", i, j)
			}
		}
	}
}

// R3: books of one book stay apart, and what came out isn't changed by later calls on it.
func TestBranchesApart(t *testing.T) {
	for i, b := range samples(t) {
		first := answers(b)
		was := make([]api.Book, len(first))
		for j, x := range first {
			was[j] = clone(x)
		}
		for _, x := range first {
			askAll(x)
			for _, y := range answers(x) {
				spoil(y)
			}
		}
		for j, x := range first {
			if !alike(x, was[j]) {
				t.Errorf("sample %d: answer %d was changed by a later call", i, j)
			}
		}
	}
}

// R4: what is answered hangs on the arguments alone: asked again, it is the same.
func TestAgain(t *testing.T) {
	for i, b := range samples(t) {
		if !slices.EqualFunc(answers(b), answers(clone(b)), alike) {
			t.Errorf("sample %d answers otherwise when asked again", i)
		}
	}
}

// R1, R3: no call panics at a book that isn't right, nor writes into it, and what may not be done is told as ever.
func TestNotRightEnds(t *testing.T) {
	for name, b := range wrongs() {
		mine, untouched := roomy(b)
		askAll(mine)
		for _, x := range answers(mine) {
			answers(x)
		}
		if x, e := book.Apply(mine, api.Op{Kind: 7, User: "u"}); e != api.ErrArg || !alike(x, b) {
			t.Errorf("%s: kind 7 = %d", name, e)
		}
		if !untouched() {
			t.Errorf("%s: written into", name)
		}
	}
}
