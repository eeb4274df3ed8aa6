package store_test

import (
	"bytes"
	"math/rand"
	"slices"
	"testing"

	"portreeve/api"
	"portreeve/book"
	"portreeve/code"
	"portreeve/disk"
	"portreeve/store"
)

// Ops, by what they need.

func open(link int, addr uint32, user string) api.Op {
	return api.Op{Kind: api.OOpen, Link: link, Addr: addr, User: user}
}

func interim(id int, in, out uint64) api.Op {
	return api.Op{Kind: api.OInterim, Id: id, User: "u", In: in, Out: out}
}

func stop(id int, in, out uint64, cause int) api.Op {
	return api.Op{Kind: api.OClose, Id: id, User: "u", In: in, Out: out, Cause: cause}
}

func fail(user string, at int) api.Op { return api.Op{Kind: api.OFail, User: user, At: at} }

func pass(user string) api.Op { return api.Op{Kind: api.OPass, User: user} }

func trim() api.Op { return api.Op{Kind: api.OTrim, User: "u"} }

// ordinary are ops of each kind, as they come.
func ordinary() []api.Op {
	return []api.Op{
		open(2, 167772162, "ann"),
		fail("bob", 3),
		open(5, 167772161, "cyd"),
		interim(0, 5, 7),
		stop(1, 2, 3, 4),
		fail("eve", 9),
		trim(),
		pass("bob"),
		interim(0, 1<<40, 7),
		open(0, 167772166, "dee"),
	}
}

// known is the book behind ordinary, reckoned by hand.
func known() api.Book {
	return api.Book{
		Next: 3,
		Open: []api.Sess{
			{Id: 0, Link: 2, Addr: 167772162, User: "ann", In: 1 << 40, Out: 7},
			{Id: 2, Link: 0, Addr: 167772166, User: "dee"},
		},
		Items: []api.Item{
			{Kind: 1, Id: 0},
			{Kind: 2, Id: 0, In: 5, Out: 7},
			{Kind: 2, Id: 0, In: 1 << 40, Out: 7},
			{Kind: 1, Id: 2},
		},
		Locks: []api.Lock{{User: "eve", N: 1, At: 9}},
	}
}

// knownClosed is known, closed, by hand.
func knownClosed() api.Book {
	b := known()
	b.Open = nil
	b.Items = append(b.Items, api.Item{Kind: 3, Id: 0, In: 1 << 40, Out: 7, Cause: 9}, api.Item{Kind: 3, Id: 2, Cause: 9})
	return b
}

// did is a store behind ops, none of which may fail.
func did(t *testing.T, s api.Store, ops ...api.Op) api.Store {
	t.Helper()
	for i, o := range ops {
		next, e := store.Do(s, o)
		if e != api.OK {
			t.Fatalf("op %d, %+v: %d", i, o, e)
		}
		s = next
	}
	return s
}

// checked is a store behind a Check that must be.
func checked(t *testing.T, s api.Store) api.Store {
	t.Helper()
	out, e := store.Check(s)
	if e != api.OK {
		t.Fatalf("Check of generation %d: %d", s.Gen, e)
	}
	return out
}

// found is what must be found on a disk.
func found(t *testing.T, d api.Disk) api.Store {
	t.Helper()
	s, e := store.Found(d)
	if e != api.OK {
		t.Fatalf("Found: %d", e)
	}
	return s
}

// recovered is the store that must begin anew.
func recovered(t *testing.T, d api.Disk) api.Store {
	t.Helper()
	s, e := store.Recover(d)
	if e != api.OK {
		t.Fatalf("Recover: %d", e)
	}
	return s
}

// fails are n failures of one user.
func fails(n int) []api.Op { return slices.Repeat([]api.Op{fail("u", 4)}, n) }

// Bytes that stand on a disk.

func record(t *testing.T, gen, seq int, o api.Op) []byte {
	t.Helper()
	b, e := code.OpBytes(gen, seq, o)
	if e != api.OK {
		t.Fatal(e)
	}
	return b
}

func head(t *testing.T, gen int) []byte {
	t.Helper()
	b, e := code.HeadBytes(gen)
	if e != api.OK {
		t.Fatal(e)
	}
	return b
}

// snapshot is the sixteen sectors of a book.
func snapshot(t *testing.T, b api.Book) [][]byte {
	t.Helper()
	all, e := code.BookBytes(b)
	if e != api.OK || len(all) != 2048 {
		t.Fatal(len(all), e)
	}
	return slices.Collect(slices.Chunk(all, 128))
}

// noughts are a sector's.
func noughts() []byte { return make([]byte, 128) }

// sheet is a disk that the tests lay by hand: what stands in which sector, flushed; noughts elsewhere.
type sheet map[int][]byte

// with lays a sector.
func (s sheet) with(at int, b []byte) sheet {
	s[at] = b
	return s
}

// snap lays the sixteen sectors of a book, from a sector on.
func (s sheet) snap(t *testing.T, from int, b api.Book) sheet {
	t.Helper()
	for i, x := range snapshot(t, b) {
		s[from+i] = x
	}
	return s
}

// records lays ops from number 0 on.
func (s sheet) records(t *testing.T, gen int, ops ...api.Op) sheet {
	t.Helper()
	for i, o := range ops {
		s[34+i] = record(t, gen, i, o)
	}
	return s
}

// disk is the disk of a sheet.
func (s sheet) disk() api.Disk {
	var d api.Disk
	for at := range 64 {
		b := noughts()
		copy(b, s[at])
		d.S = append(d.S, b)
	}
	return d
}

// ofGen is a disk of one generation, of a book and records behind it, by hand.
func ofGen(t *testing.T, gen int, b api.Book, ops ...api.Op) api.Disk {
	t.Helper()
	return sheet{}.with(gen%2, head(t, gen)).snap(t, []int{2, 18}[gen%2], b).records(t, gen, ops...).disk()
}

// wet is a disk with a write more, that isn't flushed.
func wet(d api.Disk, at int, b []byte) api.Disk {
	out := cloneDisk(d)
	out.W = append(out.W, api.Put{At: at, B: bytes.Clone(b)})
	return out
}

// Copies, and what is alike, as the tests see it.

func cloneDisk(d api.Disk) api.Disk {
	var out api.Disk
	for _, b := range d.S {
		out.S = append(out.S, bytes.Clone(b))
	}
	for _, w := range d.W {
		out.W = append(out.W, api.Put{At: w.At, B: bytes.Clone(w.B)})
	}
	return out
}

func cloneBook(b api.Book) api.Book {
	return api.Book{Next: b.Next, Open: slices.Clone(b.Open), Items: slices.Clone(b.Items), Locks: slices.Clone(b.Locks)}
}

func clone(s api.Store) api.Store {
	return api.Store{D: cloneDisk(s.D), Gen: s.Gen, Seq: s.Seq, B: cloneBook(s.B), Safe: cloneBook(s.Safe)}
}

func alikeDisks(a, b api.Disk) bool {
	return slices.EqualFunc(a.S, b.S, bytes.Equal) && slices.EqualFunc(a.W, b.W, func(x, y api.Put) bool {
		return x.At == y.At && bytes.Equal(x.B, y.B)
	})
}

func alikeBooks(a, b api.Book) bool {
	return a.Next == b.Next && slices.Equal(a.Open, b.Open) && slices.Equal(a.Items, b.Items) && slices.Equal(a.Locks, b.Locks)
}

func alike(a, b api.Store) bool {
	return alikeDisks(a.D, b.D) && a.Gen == b.Gen && a.Seq == b.Seq && alikeBooks(a.B, b.B) && alikeBooks(a.Safe, b.Safe)
}

// isNothing: is it the zero value, but that lists may be empty?
func isNothing(s api.Store) bool { return alike(s, api.Store{}) }

// flushed is a disk behind its writes, by hand.
func flushed(d api.Disk) api.Disk {
	out := cloneDisk(d)
	for _, w := range out.W {
		out.S[w.At] = bytes.Clone(w.B)
	}
	out.W = nil
	return out
}

// named are stores by what they are.
type named struct {
	name string
	s    api.Store
}

// samples are stores of each kind that the chapter names.
func samples(t *testing.T) []named {
	t.Helper()
	some := did(t, store.Format(), ordinary()...)
	half := did(t, store.Sync(did(t, store.Format(), ordinary()[:4]...)), ordinary()[4:]...)
	third := did(t, checked(t, checked(t, half)), fail("eve", 10), open(1, 167772163, "fay"))
	torn := disk.Crash(half.D, []bool{true, true, false, true})
	return []named{
		{"new", store.Format()},
		{"some", some},
		{"half synced", half},
		{"synced", store.Sync(some)},
		{"checked", checked(t, some)},
		{"third generation", third},
		{"full", did(t, store.Sync(did(t, some, fails(12)...)), fails(8)...)},
		{"found", found(t, half.D)},
		{"found torn", found(t, torn)},
		{"recovered", recovered(t, torn)},
		{"recovered, with more", did(t, recovered(t, torn), fail("fay", 10), pass("fay"))},
		{"last but one", found(t, wet(ofGen(t, 999999999, known(), pass("eve")), 35, record(t, 999999999, 1, trim())))},
		{"last", found(t, wet(ofGen(t, 1000000000, known(), pass("eve")), 35, record(t, 1000000000, 1, trim())))},
	}
}

// keepsOf are rows of what is kept of n writes: none, all, the first ones, all but one, one alone, and drawn ones.
func keepsOf(n int) [][]bool {
	out := [][]bool{nil, slices.Repeat([]bool{true}, n)}
	for i := range n {
		first, but, alone := make([]bool, n), slices.Repeat([]bool{true}, n), make([]bool, i+1)
		for j := range i {
			first[j] = true
		}
		but[i], alone[i] = false, true
		out = append(out, first, but, alone)
	}
	r := rand.New(rand.NewSource(int64(n)))
	for range 10 {
		keep := make([]bool, n)
		for i := range keep {
			keep[i] = r.Intn(3) > 0
		}
		out = append(out, keep)
	}
	return out
}

// everyKeep are all rows of what is kept of n writes.
func everyKeep(n int) [][]bool {
	var out [][]bool
	for bits := range 1 << n {
		keep := make([]bool, n)
		for i := range keep {
			keep[i] = bits>>i&1 == 1
		}
		out = append(out, keep)
	}
	return out
}

// drawn is an op, mostly one that b can take.
func drawn(r *rand.Rand, b api.Book) api.Op {
	kinds := []int{api.OOpen, api.OOpen, api.OInterim, api.OInterim, api.OInterim, api.OClose, api.OFail, api.OFail, api.OPass, api.OTrim}
	o := api.Op{
		Kind: kinds[r.Intn(len(kinds))],
		Id:   r.Intn(b.Next + 1),
		Link: r.Intn(api.Links),
		Addr: api.Base + uint32(r.Intn(api.Pool+1)),
		User: string(rune('a' + r.Intn(10))),
		In:   uint64(r.Intn(9)), Out: uint64(r.Intn(9)),
		Cause: r.Intn(256), At: r.Intn(4),
	}
	if len(b.Open) > 0 && r.Intn(5) > 0 {
		s := b.Open[r.Intn(len(b.Open))]
		o.Id, o.In, o.Out = s.Id, s.In+uint64(r.Intn(3)), s.Out+uint64(r.Intn(3))
	}
	if r.Intn(30) == 0 {
		o.Link = r.Intn(12) - 2
	}
	return o
}

// applied is a book behind ops, none of which may fail.
func applied(t *testing.T, b api.Book, ops ...api.Op) api.Book {
	t.Helper()
	for i, o := range ops {
		next, e := book.Apply(b, o)
		if e != api.OK {
			t.Fatalf("op %d, %+v: %d", i, o, e)
		}
		b = next
	}
	return b
}
