package book_test

import (
	"math/rand"
	"slices"
	"testing"

	"portreeve/api"
	"portreeve/book"
)

// Ops, by what they need; the tests set more where it must not matter.

func open(link int, addr uint32, user string) api.Op {
	return api.Op{Kind: api.OOpen, Link: link, Addr: addr, User: user}
}

func interim(id int, in, out uint64) api.Op {
	return api.Op{Kind: api.OInterim, Id: id, User: "u", In: in, Out: out}
}

func stop(id int, in, out uint64, cause int) api.Op {
	return api.Op{Kind: api.OClose, Id: id, User: "u", In: in, Out: out, Cause: cause}
}

func fail(user string, at int) api.Op { return api.Op{Kind: api.OFail, User: user, At: at} }

func pass(user string) api.Op { return api.Op{Kind: api.OPass, User: user} }

func trim() api.Op { return api.Op{Kind: api.OTrim, User: "u"} }

// done is a book behind ops, none of which may fail.
func done(t *testing.T, b api.Book, ops ...api.Op) api.Book {
	t.Helper()
	for i, o := range ops {
		next, e := book.Apply(b, o)
		if e != api.OK {
			t.Fatalf("op %d, %+v: %d", i, o, e)
		}
		b = next
	}
	return b
}

// clone is a book in memory of its own.
func clone(b api.Book) api.Book {
	return api.Book{
		Next:  b.Next,
		Open:  append([]api.Sess(nil), b.Open...),
		Items: append([]api.Item(nil), b.Items...),
		Locks: append([]api.Lock(nil), b.Locks...),
	}
}

// alike are two books that are the same, as the tests see it.
func alike(a, b api.Book) bool {
	if a.Next != b.Next || len(a.Open) != len(b.Open) || len(a.Items) != len(b.Items) || len(a.Locks) != len(b.Locks) {
		return false
	}
	for i := range a.Open {
		if a.Open[i] != b.Open[i] {
			return false
		}
	}
	for i := range a.Items {
		if a.Items[i] != b.Items[i] {
			return false
		}
	}
	for i := range a.Locks {
		if a.Locks[i] != b.Locks[i] {
			return false
		}
	}
	return true
}

// ordinary are ops as they come: sessions on links of their own, counted, closed, with users that failed and came in between.
func ordinary() []api.Op {
	return []api.Op{
		open(2, api.Base+1, "ann"),
		fail("bob", 3),
		open(5, api.Base, "cyd"),
		interim(0, 5, 7),
		fail("eve", 4),
		stop(1, 2, 3, 4),
		fail("bob", 9),
		open(0, api.Base+4, "dee"),
		interim(2, 1<<40, 0),
		pass("eve"),
		open(7, api.Base, "bob"),
		interim(0, 6, 7),
		fail("fay", 9),
	}
}

// known is the book behind ordinary, reckoned by hand.
func known() api.Book {
	return api.Book{
		Next: 4,
		Open: []api.Sess{
			{Id: 0, Link: 2, Addr: 167772162, User: "ann", In: 6, Out: 7},
			{Id: 2, Link: 0, Addr: 167772165, User: "dee", In: 1 << 40},
			{Id: 3, Link: 7, Addr: 167772161, User: "bob"},
		},
		Items: []api.Item{
			{Kind: 1, Id: 0},
			{Kind: 1, Id: 1},
			{Kind: 2, Id: 0, In: 5, Out: 7},
			{Kind: 3, Id: 1, In: 2, Out: 3, Cause: 4},
			{Kind: 1, Id: 2},
			{Kind: 2, Id: 2, In: 1 << 40},
			{Kind: 1, Id: 3},
			{Kind: 2, Id: 0, In: 6, Out: 7},
		},
		Locks: []api.Lock{{User: "bob", N: 2, At: 9}, {User: "fay", N: 1, At: 9}},
	}
}

// filled is a right book of n lines and open sessions together, n from 3 on: session 0 is open on link 3, with the first address.
func filled(n int) api.Book {
	b := api.Book{
		Next:  1,
		Open:  []api.Sess{{Id: 0, Link: 3, Addr: api.Base, User: "u", In: 10, Out: 20}},
		Items: []api.Item{{Kind: api.IStart, Id: 0}},
	}
	for len(b.Items)+1 < n {
		b.Items = append(b.Items, api.Item{Kind: api.IInterim, Id: 0, In: 10, Out: 20})
	}
	return b
}

// stopped is a right book of n lines, all of sessions that have stopped; n is even.
func stopped(n int) api.Book {
	b := api.Book{Next: n / 2}
	for id := range n / 2 {
		b.Items = append(b.Items, api.Item{Kind: api.IStart, Id: id}, api.Item{Kind: api.IStop, Id: id, In: 1, Cause: 2})
	}
	return b
}

// crowded is a right book in which all of the pool is held.
func crowded() api.Book {
	b := api.Book{Next: 6}
	for i := range 6 {
		b.Open = append(b.Open, api.Sess{Id: i, Link: i, Addr: api.Base + uint32(5-i), User: "u"})
		b.Items = append(b.Items, api.Item{Kind: api.IStart, Id: i})
	}
	return b
}

// failed is a right book of n that have failed, each of them at 7 and once more than the one ahead of it.
func failed(n int) api.Book {
	var b api.Book
	for i := range n {
		b.Locks = append(b.Locks, api.Lock{User: string(rune('a' + i)), N: i + 1, At: 7})
	}
	return b
}

// samples are books that are right: the edges, ordinary ones, and drawn ones, the same in every run.
func samples(t *testing.T) []api.Book {
	out := []api.Book{
		{}, known(), filled(3), filled(58), filled(59), filled(60), stopped(58), stopped(60), crowded(), failed(1), failed(7), failed(8),
		{Next: api.MaxIds}, {Next: 1},
	}
	r := rand.New(rand.NewSource(4))
	for range 12 {
		b := api.Book{}
		for n := range 90 {
			b, _ = book.Apply(b, drawn(r, b))
			if n%30 == 29 {
				out = append(out, b)
			}
		}
	}
	return out
}

// drawn is an op, mostly one that b can take.
func drawn(r *rand.Rand, b api.Book) api.Op {
	kinds := []int{api.OOpen, api.OOpen, api.OOpen, api.OInterim, api.OInterim, api.OInterim, api.OInterim, api.OClose, api.OClose, api.OFail, api.OFail, api.OFail, api.OPass, api.OTrim}
	o := api.Op{
		Kind:  kinds[r.Intn(len(kinds))],
		Id:    r.Intn(b.Next + 1),
		Link:  r.Intn(api.Links),
		Addr:  api.Base + uint32(r.Intn(api.Pool+1)),
		User:  string(rune('a' + r.Intn(12))),
		In:    uint64(r.Intn(9)),
		Out:   uint64(r.Intn(9)),
		Cause: r.Intn(256),
		At:    r.Intn(4),
	}
	if o.Kind == api.OTrim && r.Intn(3) > 0 {
		// So that books fill up now and then.
		o.Kind = api.OInterim
	}
	if len(b.Open) > 0 && r.Intn(5) > 0 {
		s := b.Open[r.Intn(len(b.Open))]
		o.Id, o.In, o.Out = s.Id, s.In+uint64(r.Intn(3)), s.Out+uint64(r.Intn(3))
	}
	if r.Intn(20) == 0 {
		o.Link, o.Cause = r.Intn(12)-2, r.Intn(260)-2
	}
	return o
}

// right is the chapter's "A book is right", a sentence at a time.
func right(b api.Book) bool {
	ok := b.Next >= 0 && b.Next <= 1000000000
	links, addrs, open := map[int]bool{}, map[uint32]bool{}, map[int]api.Sess{}
	before := -1
	for _, s := range b.Open {
		ok = ok && s.Id > before && s.Id < b.Next
		ok = ok && s.Link >= 0 && s.Link <= 7 && !links[s.Link]
		ok = ok && s.Addr >= 167772161 && s.Addr <= 167772166 && !addrs[s.Addr]
		ok = ok && len(s.User) >= 1 && len(s.User) <= 16
		before, links[s.Link], addrs[s.Addr], open[s.Id] = s.Id, true, true, s
	}
	lines := map[int][]api.Item{}
	for _, l := range b.Items {
		lines[l.Id] = append(lines[l.Id], l)
	}
	for id, l := range lines {
		s, is := open[id]
		last := l[len(l)-1]
		ok = ok && id >= 0 && id < b.Next && rightLines(l)
		ok = ok && is == (last.Kind != 3)
		ok = ok && (!is || s.In == last.In && s.Out == last.Out)
	}
	for id := range open {
		ok = ok && len(lines[id]) > 0
	}
	users := map[string]bool{}
	for _, l := range b.Locks {
		ok = ok && len(l.User) >= 1 && len(l.User) <= 16 && !users[l.User]
		ok = ok && l.N >= 1 && l.N <= 255 && l.At >= 0 && l.At <= 1000000000
		users[l.User] = true
	}
	return ok && len(b.Items)+len(b.Open) <= 60 && len(b.Locks) <= 8
}

// rightLines are the lines of one session, as the chapter says them.
func rightLines(l []api.Item) bool {
	ok := true
	for i, x := range l {
		switch x.Kind {
		case 1:
			ok = ok && i == 0 && x.In == 0 && x.Out == 0 && x.Cause == 0
		case 2:
			ok = ok && i > 0 && x.Cause == 0
		case 3:
			ok = ok && i > 0 && i == len(l)-1 && x.Cause >= 0 && x.Cause <= 255
		default:
			ok = false
		}
		ok = ok && (i == 0 || x.In >= l[i-1].In && x.Out >= l[i-1].Out)
	}
	return ok
}

// may is the chapter's "An Op may be done".
func may(o api.Op) bool {
	return slices.Contains([]int{1, 2, 3, 4, 5, 6}, o.Kind) && o.Id >= 0 && o.Id <= 1000000000 && o.Link >= 0 && o.Link <= 7 &&
		o.At >= 0 && o.At <= 1000000000 && o.Cause >= 0 && o.Cause <= 255 && len(o.User) >= 1 && len(o.User) <= 16
}
