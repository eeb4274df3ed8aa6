package code_test

import (
	"encoding/binary"
	"encoding/hex"
	"math/rand"
	"slices"
	"strings"
	"testing"

	"portreeve/api"
	"portreeve/book"
)

// spelt are bytes that are spelt two figures a byte, and noughts behind them, size in all.
func spelt(t *testing.T, size int, rows ...string) []byte {
	t.Helper()
	b, err := hex.DecodeString(strings.ReplaceAll(strings.Join(rows, ""), " ", ""))
	if err != nil || len(b) > size {
		t.Fatal(len(b), err)
	}
	return append(b, make([]byte, size-len(b))...)
}

// withByte are bytes of their own, with x at a place.
func withByte(b []byte, at int, x byte) []byte {
	out := slices.Clone(b)
	out[at] = x
	return out
}

// alike are two books that are the same, as the tests see it.
func alike(a, b api.Book) bool {
	return a.Next == b.Next && slices.Equal(a.Open, b.Open) && slices.Equal(a.Items, b.Items) && slices.Equal(a.Locks, b.Locks)
}

// clone is a book in memory of its own.
func clone(b api.Book) api.Book {
	return api.Book{Next: b.Next, Open: slices.Clone(b.Open), Items: slices.Clone(b.Items), Locks: slices.Clone(b.Locks)}
}

// known is a right book; snapOfKnown are its bytes.
func known() api.Book {
	return api.Book{
		Next: 258,
		Open: []api.Sess{
			{Id: 1, Link: 2, Addr: 167772164, User: "ann", In: 7, Out: 1 << 63},
			{Id: 257, Link: 7, Addr: 167772161, User: "a user of 16 byt"},
		},
		Items: []api.Item{
			{Kind: 1, Id: 1},
			{Kind: 1, Id: 256},
			{Kind: 2, Id: 1, In: 7, Out: 1 << 63},
			{Kind: 3, Id: 256, In: 255, Out: 256, Cause: 200},
			{Kind: 1, Id: 257},
		},
		Locks: []api.Lock{{User: "b\x00b", N: 255, At: 1000000000}, {User: "c", N: 1}, {User: "fifteen bytes..", N: 2, At: 256}},
	}
}

// snapOfKnown is the known book's snapshot, spelt by hand.
func snapOfKnown(t *testing.T) []byte {
	return spelt(t, 2048,
		"00000102 02 05 03",
		"00000001 02 0a000004", "03 616e6e 00000000000000000000000000", "0000000000000007 8000000000000000",
		"00000101 07 0a000001", "10 612075736572206f6620313620627974", "0000000000000000 0000000000000000",
		"01 00000001 0000000000000000 0000000000000000 00",
		"01 00000100 0000000000000000 0000000000000000 00",
		"02 00000001 0000000000000007 8000000000000000 00",
		"03 00000100 00000000000000ff 0000000000000100 c8",
		"01 00000101 0000000000000000 0000000000000000 00",
		"03 620062 00000000000000000000000000", "ff 3b9aca00",
		"01 63 000000000000000000000000000000", "01 00000000",
		"0f 6669667465656e2062797465732e2e 00", "02 00000100",
	)
}

// manyOpen is a right book in which all of the pool is held.
func manyOpen() api.Book {
	b := api.Book{Next: 6}
	for i := range 6 {
		b.Open = append(b.Open, api.Sess{Id: i, Link: i + 2, Addr: 167772166 - uint32(i), User: "u"})
		b.Items = append(b.Items, api.Item{Kind: 1, Id: i})
	}
	return b
}

// manyLines is a right book of 60 lines, all of one session that has stopped.
func manyLines() api.Book {
	b := api.Book{Next: 1000000000, Items: []api.Item{{Kind: 1, Id: 999999999}}}
	for i := range uint64(58) {
		b.Items = append(b.Items, api.Item{Kind: 2, Id: 999999999, In: i, Out: 1 << i})
	}
	return api.Book{Next: b.Next, Items: append(b.Items, api.Item{Kind: 3, Id: 999999999, In: 1<<64 - 1, Out: 1<<64 - 1, Cause: 255})}
}

// manyLocks is a right book of 8 that have failed.
func manyLocks() api.Book {
	var b api.Book
	for i := range 8 {
		b.Locks = append(b.Locks, api.Lock{User: strings.Repeat(string(rune('a'+i)), 2*i+1), N: 1 + i, At: i})
	}
	return b
}

// fullest is a right book than whose no snapshot tells more.
func fullest() api.Book {
	b := manyOpen()
	for range 48 {
		b.Items = append(b.Items, api.Item{Kind: 2, Id: 5})
	}
	b.Locks = manyLocks().Locks
	return b
}

// samples are right books: the edges, and drawn ones, the same in every run.
func samples() []api.Book {
	out := []api.Book{
		{}, {Next: 1}, {Next: 255}, {Next: 256}, {Next: 1000000000}, known(), manyOpen(), manyLines(), manyLocks(), fullest(),
		{Next: 1, Open: []api.Sess{{Addr: 167772161, User: "u"}}, Items: []api.Item{{Kind: 1}}},
		{Locks: []api.Lock{{User: "\x00", N: 1}}},
		{Locks: []api.Lock{{User: "u", N: 1}, {User: "u\x00", N: 2}}},
	}
	r := rand.New(rand.NewSource(5))
	for range 20 {
		b := api.Book{}
		for n := range 90 {
			b, _ = book.Apply(b, drawnFor(r, b))
			if n%30 == 29 {
				out = append(out, b)
			}
		}
	}
	return out
}

// drawnFor is an op, mostly one that b can take.
func drawnFor(r *rand.Rand, b api.Book) api.Op {
	o := drawn(r)
	o.Kind = 1 + r.Intn(5)
	o.Addr, o.Id = 167772161+uint32(r.Intn(6)), r.Intn(b.Next+1)
	o.User = string(rune('a' + r.Intn(12)))
	if len(b.Open) > 0 {
		s := b.Open[r.Intn(len(b.Open))]
		o.Id, o.In, o.Out = s.Id, s.In+uint64(r.Intn(300)), s.Out+uint64(r.Intn(300))
	}
	return o
}

// drawn is an op that may be done.
func drawn(r *rand.Rand) api.Op {
	user := make([]byte, 1+r.Intn(16))
	for i := range user {
		user[i] = byte(r.Intn(256) * r.Intn(2))
	}
	return api.Op{
		Kind: 1 + r.Intn(6), Id: r.Intn(1000000001), Link: r.Intn(8), Addr: r.Uint32(), User: string(user),
		In: r.Uint64() >> r.Intn(64), Out: r.Uint64() >> r.Intn(64), Cause: r.Intn(256), At: r.Intn(1000000001),
	}
}

// wrongBooks are books that aren't right for one thing.
func wrongBooks() map[string]api.Book {
	changes := map[string]func(b *api.Book){
		"Next below 0":        func(b *api.Book) { *b = api.Book{Next: -1} },
		"Next too great":      func(b *api.Book) { b.Next = 1000000001 },
		"Next too small":      func(b *api.Book) { b.Next = 257 },
		"Next beyond 32 bits": func(b *api.Book) { b.Next += 1 << 32 },
		"a number below 0":    func(b *api.Book) { b.Items[1].Id, b.Items[3].Id = -1, -1 },
		"61 lines": func(b *api.Book) {
			*b = manyLines()
			b.Items = slices.Insert(b.Items, 1, api.Item{Kind: 2, Id: 999999999})
		},
		"61 of both":           func(b *api.Book) { *b = fullest(); b.Items = append(b.Items, api.Item{Kind: 2, Id: 5}) },
		"nine locks":           func(b *api.Book) { b.Locks = append(manyLocks().Locks, api.Lock{User: "i", N: 1}) },
		"259 locks":            manyMoreLocks,
		"lines of none's":      func(b *api.Book) { b.Open = b.Open[:1] },
		"octets of no line":    func(b *api.Book) { b.Open[0].In++ },
		"a link twice":         func(b *api.Book) { b.Open[0].Link = 7 },
		"link 258":             func(b *api.Book) { b.Open[0].Link = 258 },
		"an address twice":     func(b *api.Book) { b.Open[0].Addr = 167772161 },
		"an address too great": func(b *api.Book) { b.Open[0].Addr = 167772167 },
		"numbers that fall":    func(b *api.Book) { b.Open[0], b.Open[1] = b.Open[1], b.Open[0] },
		"a user of 0 bytes":    func(b *api.Book) { b.Open[0].User = "" },
		"a user of 17 bytes":   func(b *api.Book) { b.Open[0].User = strings.Repeat("u", 17) },
		"a kind of 259":        func(b *api.Book) { b.Items[3].Kind = 259 },
		"a Cause of 456":       func(b *api.Book) { b.Items[3].Cause = 456 },
		"an N of 0":            func(b *api.Book) { b.Locks[1].N = 0 },
		"an N of 257":          func(b *api.Book) { b.Locks[1].N = 257 },
		"an At of 10^9 and 1":  func(b *api.Book) { b.Locks[1].At = 1000000001 },
		"a lock of 17 bytes":   func(b *api.Book) { b.Locks[1].User = strings.Repeat("u", 17) },
		"a lock of 273 bytes":  func(b *api.Book) { b.Locks[1].User = strings.Repeat("u", 273) },
		"a lock twice":         func(b *api.Book) { b.Locks[1].User = b.Locks[0].User },
	}
	out := map[string]api.Book{}
	for name, change := range changes {
		b := known()
		change(&b)
		out[name] = b
	}
	return out
}

// manyMoreLocks gives a book 256 locks more.
func manyMoreLocks(b *api.Book) {
	for i := range 256 {
		b.Locks = append(b.Locks, api.Lock{User: "l" + string(rune('a'+i)), N: 1})
	}
}

// wrongOps are ops that may not be done for one thing of each that is said.
func wrongOps() map[string]api.Op {
	out := map[string]api.Op{}
	changes := map[string]func(o *api.Op){
		"kind 0":             func(o *api.Op) { o.Kind = 0 },
		"kind 7":             func(o *api.Op) { o.Kind = 7 },
		"kind -1":            func(o *api.Op) { o.Kind = -1 },
		"kind 259":           func(o *api.Op) { o.Kind = 259 },
		"Id -1":              func(o *api.Op) { o.Id = -1 },
		"Id 10^9 and 1":      func(o *api.Op) { o.Id = 1000000001 },
		"Id 2^32":            func(o *api.Op) { o.Id = 1 << 32 },
		"link -1":            func(o *api.Op) { o.Link = -1 },
		"link 8":             func(o *api.Op) { o.Link = 8 },
		"link 256":           func(o *api.Op) { o.Link = 256 },
		"At -1":              func(o *api.Op) { o.At = -1 },
		"At 10^9 and 1":      func(o *api.Op) { o.At = 1000000001 },
		"At 2^32":            func(o *api.Op) { o.At = 1 << 32 },
		"Cause -1":           func(o *api.Op) { o.Cause = -1 },
		"Cause 256":          func(o *api.Op) { o.Cause = 256 },
		"a user of 0 bytes":  func(o *api.Op) { o.User = "" },
		"a user of 17 bytes": func(o *api.Op) { o.User = strings.Repeat("u", 17) },
		"a user of 257":      func(o *api.Op) { o.User = strings.Repeat("u", 257) },
	}
	for name, change := range changes {
		o := knownOp()
		change(&o)
		out[name] = o
	}
	out["nothing"] = api.Op{}
	return out
}

// row reads bytes as the chapter says them, a place at a time, for the tests alone.
type row struct {
	b  []byte
	ok bool
}

func (r *row) next(n int) []byte {
	if n > len(r.b) {
		r.b, r.ok = nil, false
		return make([]byte, n)
	}
	x := r.b[:n]
	r.b = r.b[n:]
	return x
}

func (r *row) one() int      { return int(r.next(1)[0]) }
func (r *row) four() int     { return int(binary.BigEndian.Uint32(r.next(4))) }
func (r *row) eight() uint64 { return binary.BigEndian.Uint64(r.next(8)) }

func (r *row) name() string {
	x := r.next(17)
	n := int(x[0])
	if n > 16 || strings.Trim(string(x[1+n:]), "\x00") != "" {
		r.ok = false
		return ""
	}
	return string(x[1 : 1+n])
}

func (r *row) sess() api.Sess {
	var s api.Sess
	s.Id = r.four()
	s.Link = r.one()
	s.Addr = uint32(r.four())
	s.User = r.name()
	s.In = r.eight()
	s.Out = r.eight()
	return s
}

func (r *row) item() api.Item {
	var l api.Item
	l.Kind = r.one()
	l.Id = r.four()
	l.In = r.eight()
	l.Out = r.eight()
	l.Cause = r.one()
	return l
}

func (r *row) lock() api.Lock {
	var l api.Lock
	l.User = r.name()
	l.N = r.one()
	l.At = r.four()
	return l
}

// snapOf is the book of which b is the snapshot, as the tests see it.
func snapOf(b []byte) (api.Book, bool) {
	r := &row{b: b, ok: len(b) == 2048}
	out := api.Book{Next: r.four()}
	opens, items, locks := r.one(), r.one(), r.one()
	for i := 0; i < opens && r.ok; i++ {
		out.Open = append(out.Open, r.sess())
	}
	for i := 0; i < items && r.ok; i++ {
		out.Items = append(out.Items, r.item())
	}
	for i := 0; i < locks && r.ok; i++ {
		out.Locks = append(out.Locks, r.lock())
	}
	if !r.ok || strings.Trim(string(r.b), "\x00") != "" || !book.Right(out) {
		return api.Book{}, false
	}
	return out, true
}

// told is what a record tells.
type told struct {
	gen, seq int
	op       api.Op
}

// recordOf is what the record b tells, as the tests see it.
func recordOf(b []byte) (told, bool) {
	if len(b) != 128 || b[0] != 'R' || b[1] != 'E' || strings.Trim(string(b[55:]), "\x00") != "" {
		return told{}, false
	}
	four := func(at int) int { return int(binary.BigEndian.Uint32(b[at:])) }
	x := told{gen: four(2), seq: int(b[6])}
	x.op.Kind, x.op.Id, x.op.Link, x.op.Addr = int(b[7]), four(8), int(b[12]), uint32(four(13))
	r := &row{b: b[17:34], ok: true}
	x.op.User = r.name()
	x.op.In, x.op.Out = binary.BigEndian.Uint64(b[34:]), binary.BigEndian.Uint64(b[42:])
	x.op.Cause, x.op.At = int(b[50]), four(51)
	if !r.ok || x.gen < 1 || x.gen > 1000000000 || x.seq > 29 || !book.May(x.op) {
		return told{}, false
	}
	return x, true
}

// headOf is the generation of the head b, as the tests see it.
func headOf(b []byte) (int, bool) {
	if len(b) != 128 || b[0] != 'H' || b[1] != 'D' || strings.Trim(string(b[6:]), "\x00") != "" {
		return 0, false
	}
	gen := int(binary.BigEndian.Uint32(b[2:]))
	if gen < 1 || gen > 1000000000 {
		return 0, false
	}
	return gen, true
}
