package code_test

import (
	"bytes"
	"math/rand"
	"testing"

	"portreeve/api"
	"portreeve/book"
	"portreeve/code"
)

// isNoSnapshot asks what must be none's snapshot.
func isNoSnapshot(t *testing.T, what string, b []byte) {
	t.Helper()
	if x, e := code.ReadBook(b); e != api.ErrForm || !alike(x, api.Book{}) {
		t.Errorf("%s: ReadBook = %+v, %d", what, x, e)
	}
}

// snapAsSaid holds ReadBook against the tests' own reading, and what is told back against the bytes.
func snapAsSaid(t *testing.T, b []byte) {
	t.Helper()
	want, ok := snapOf(b)
	if !ok {
		isNoSnapshot(t, "no snapshot", b)
		return
	}
	got, e := code.ReadBook(b)
	if e != api.OK || !alike(got, want) {
		t.Errorf("ReadBook(%x) = %+v, %d", b, got, e)
	}
	if again, e := code.BookBytes(got); e != api.OK || !bytes.Equal(again, b) {
		t.Errorf("ReadBook(%x) has %x, %d", b, again, e)
	}
}

// P5.2, P5.4: snapshots by hand, both ways.
func TestSnapshot(t *testing.T) {
	rows := map[string]struct {
		b    api.Book
		snap []byte
	}{
		"nothing":   {api.Book{}, make([]byte, 2048)},
		"Next 1":    {api.Book{Next: 1}, spelt(t, 2048, "00000001")},
		"Next 255":  {api.Book{Next: 255}, spelt(t, 2048, "000000ff")},
		"Next 256":  {api.Book{Next: 256}, spelt(t, 2048, "00000100")},
		"Next 10^9": {api.Book{Next: 1000000000}, spelt(t, 2048, "3b9aca00")},
		"one line and one lock": {
			api.Book{Next: 1, Open: []api.Sess{{Id: 0, Link: 3, Addr: 167772161, User: "u"}}, Items: []api.Item{{Kind: 1}}, Locks: []api.Lock{{User: "v", N: 1, At: 2}}},
			spelt(t, 2048, "00000001 01 01 01",
				"00000000 03 0a000001 01 75 000000000000000000000000000000 0000000000000000 0000000000000000",
				"01 00000000 0000000000000000 0000000000000000 00",
				"01 76 000000000000000000000000000000 01 00000002"),
		},
		"a lock alone": {
			api.Book{Locks: []api.Lock{{User: "\x00", N: 255, At: 1000000000}}},
			spelt(t, 2048, "00000000 00 00 01", "01 00 000000000000000000000000000000 ff 3b9aca00"),
		},
		"two lines alone": {
			api.Book{Next: 2, Items: []api.Item{{Kind: 1, Id: 1}, {Kind: 3, Id: 1, In: 1<<64 - 1, Out: 1, Cause: 255}}},
			spelt(t, 2048, "00000002 00 02 00", "01 00000001 0000000000000000 0000000000000000 00", "03 00000001 ffffffffffffffff 0000000000000001 ff"),
		},
		"known": {known(), snapOfKnown(t)},
	}
	for what, x := range rows {
		if b, e := code.BookBytes(x.b); e != api.OK || !bytes.Equal(b, x.snap) {
			t.Errorf("%s: BookBytes = %x, %d", what, b, e)
		}
		if b, e := code.ReadBook(x.snap); e != api.OK || !alike(b, x.b) {
			t.Errorf("%s: ReadBook = %+v, %d", what, b, e)
		}
	}
}

// P5.2, P5.4: what is told as bytes is told back, of books with nothing, with as much as may be, and drawn ones.
func TestSnapshotsBack(t *testing.T) {
	for i, b := range samples() {
		snap, e := code.BookBytes(b)
		if want, ok := snapOf(snap); e != api.OK || !ok || !alike(want, b) {
			t.Errorf("sample %d: BookBytes = %x, %d", i, snap, e)
		}
		if got, e := code.ReadBook(snap); e != api.OK || !alike(got, b) {
			t.Errorf("sample %d: ReadBook = %+v, %d", i, got, e)
		}
	}
	b := fullest()
	if snap, e := code.BookBytes(b); e != api.OK || snap[4] != 6 || snap[5] != 54 || snap[6] != 8 || snap[1618] != 8 || snap[1622] != 7 {
		t.Errorf("fullest: BookBytes = %x, %d", snap, e)
	}
}

// P5.2: books that aren't right have no snapshot.
func TestBookBytesRefuses(t *testing.T) {
	for what, b := range wrongBooks() {
		if book.Right(b) {
			t.Fatalf("%s: is right", what)
		}
		if snap, e := code.BookBytes(b); e != api.ErrArg || len(snap) != 0 {
			t.Errorf("%s: BookBytes = %x, %d", what, snap, e)
		}
	}
}

// P5.2: bytes that aren't as many as a snapshot's.
func TestReadBookLength(t *testing.T) {
	for _, b := range [][]byte{snapOfKnown(t), make([]byte, 2048)} {
		for n := range b {
			isNoSnapshot(t, "too short", b[:n])
		}
		isNoSnapshot(t, "one more", append(bytes.Clone(b), 0))
		isNoSnapshot(t, "a sector more", append(bytes.Clone(b), make([]byte, 128)...))
	}
	isNoSnapshot(t, "none", nil)
	isNoSnapshot(t, "a record", recordOfKnown(t))
	isNoSnapshot(t, "a head", spelt(t, 128, "4844 00000001"))
}

// change is another byte at a place.
type change struct {
	at   int
	byte byte
}

// wrongPlaces are what makes the known book's snapshot none's.
func wrongPlaces() map[string]change {
	const open, items, locks, end = 7, 7 + 2*42, 7 + 2*42 + 5*22, 7 + 2*42 + 5*22 + 3*22
	return map[string]change{
		"Next too small":              {2, 0},
		"Next too great":              {0, 0x3c},
		"Next with a high bit":        {0, 0x80},
		"no session":                  {4, 0},
		"one session":                 {4, 1},
		"three sessions":              {4, 3},
		"255 sessions":                {4, 255},
		"no line":                     {5, 0},
		"four lines":                  {5, 4},
		"six lines":                   {5, 6},
		"255 lines":                   {5, 255},
		"no lock":                     {6, 0},
		"two locks":                   {6, 2},
		"four locks":                  {6, 4},
		"255 locks":                   {6, 255},
		"a session's number":          {open + 3, 2},
		"a link twice":                {open + 4, 7},
		"link 8":                      {open + 4, 8},
		"an address twice":            {open + 8, 1},
		"an address not of the pool":  {open + 8, 7},
		"a user of 0 bytes":           {open + 9, 0},
		"a user of less":              {open + 9, 2},
		"a user of 17 bytes":          {open + 9, 17},
		"a user of 255 bytes":         {open + 9, 255},
		"behind a user":               {open + 13, 1},
		"at a user's end":             {open + 25, 1},
		"other octets in":             {open + 33, 8},
		"other octets out":            {open + 34, 0},
		"a second user of 17 bytes":   {open + 42 + 9, 17},
		"a second user of 15 bytes":   {open + 42 + 9, 15},
		"a line of kind 0":            {items, 0},
		"a line of kind 4":            {items, 4},
		"a start with octets":         {items + 12, 1},
		"a start with a cause":        {items + 21, 1},
		"an interim with a cause":     {items + 2*22 + 21, 1},
		"a line of who isn't there":   {items + 4, 3},
		"a lock of 0 bytes":           {locks, 0},
		"a lock of 2 bytes":           {locks, 2},
		"a lock of 17 bytes":          {locks, 17},
		"behind a lock's name":        {locks + 4, 1},
		"at the end of a lock's name": {locks + 16, 1},
		"an N of 0":                   {locks + 17, 0},
		"an At above 10^9":            {locks + 21, 1},
		"a third lock of 16 bytes":    {locks + 2*22 + 16, 1},
		"behind all":                  {end, 1},
		"in the midst of noughts":     {1024, 128},
		"the last byte":               {2047, 1},
	}
}

// P5.2: bytes that are a snapshot but for one thing.
func TestReadBookRefuses(t *testing.T) {
	b := snapOfKnown(t)
	for what, x := range wrongPlaces() {
		isNoSnapshot(t, what, withByte(b, x.at, x.byte))
	}
	isNoSnapshot(t, "sessions of none", spelt(t, 2048, "00000000 01"))
	isNoSnapshot(t, "lines of none", spelt(t, 2048, "00000000 00 01"))
	isNoSnapshot(t, "locks of none", spelt(t, 2048, "00000000 00 00 01"))
	isNoSnapshot(t, "all that can be told", bytes.Repeat([]byte{255}, 2048))
}

// P5.2: a snapshot's bytes, when the book that they tell isn't right, are none's. Here are books that fit into bytes, but for one thing.
func TestReadBookNotRight(t *testing.T) {
	b := fullest()
	snap, _ := code.BookBytes(b)
	isNoSnapshot(t, "a line more", func() []byte {
		more := append(bytes.Clone(snap[:1447]), snap[1425:2026]...)
		more[5] = 55
		return more
	}())
	isNoSnapshot(t, "a lock more", func() []byte {
		more := withByte(snap, 6, 9)
		copy(more[1623:], spelt(t, 22, "01 7a 000000000000000000000000000000 01 00000000"))
		return more
	}())
	lines, _ := code.BookBytes(manyLines())
	isNoSnapshot(t, "61 lines", func() []byte {
		more := append(append(bytes.Clone(lines[:29+22]), lines[29:29+22]...), lines[29+22:2026]...)
		more[5] = 61
		return more
	}())
}

// P5.2, P5.4: a snapshot with any byte at each place is what the chapter says of it.
func TestReadBookEachByte(t *testing.T) {
	full, _ := code.BookBytes(fullest())
	for _, b := range [][]byte{snapOfKnown(t), full, make([]byte, 2048)} {
		for at := range b {
			for _, x := range []int{0, 1, 2, 3, 7, 8, 15, 16, 17, 60, 61, 127, 128, 254, 255} {
				snapAsSaid(t, withByte(b, at, byte(x)))
			}
		}
	}
	for at := range 300 {
		for x := range 256 {
			snapAsSaid(t, withByte(snapOfKnown(t), at, byte(x)))
		}
	}
}

// P5.2, P5.4: drawn snapshots, with some bytes changed.
func TestReadBookDrawn(t *testing.T) {
	r := rand.New(rand.NewSource(52))
	for _, b := range samples() {
		snap, _ := code.BookBytes(b)
		for range 200 {
			c := bytes.Clone(snap)
			for range 1 + r.Intn(3) {
				c[r.Intn(1+r.Intn(2048))] = byte(r.Intn(256) >> r.Intn(8))
			}
			snapAsSaid(t, c)
		}
	}
}
