package book_test

import (
	"math"
	"math/rand"
	"slices"
	"strings"
	"testing"

	"portreeve/api"
	"portreeve/book"
)

// P4.2: ordinary ops, one behind another, come to the book that is reckoned by hand.
func TestOrdinary(t *testing.T) {
	b := done(t, api.Book{}, ordinary()...)
	if !alike(b, known()) {
		t.Errorf("%+v", b)
	}
	if addr, is := book.Free(b); addr != api.Base+2 || !is {
		t.Errorf("Free = %d, %t", addr, is)
	}
	b = done(t, b, trim(), pass("bob"), stop(2, 1<<40, 9, 0), stop(0, 6, 8, 255))
	want := api.Book{
		Next: 4,
		Open: []api.Sess{{Id: 3, Link: 7, Addr: api.Base, User: "bob"}},
		Items: []api.Item{
			{Kind: 1, Id: 0},
			{Kind: 2, Id: 0, In: 5, Out: 7},
			{Kind: 1, Id: 2},
			{Kind: 2, Id: 2, In: 1 << 40},
			{Kind: 1, Id: 3},
			{Kind: 2, Id: 0, In: 6, Out: 7},
			{Kind: 3, Id: 2, In: 1 << 40, Out: 9},
			{Kind: 3, Id: 0, In: 6, Out: 8, Cause: 255},
		},
		Locks: []api.Lock{{User: "fay", N: 1, At: 9}},
	}
	if !alike(b, want) {
		t.Errorf("%+v", b)
	}
}

// P4.2: the chapter's own example.
func TestExample(t *testing.T) {
	b, e := book.Apply(api.Book{}, open(3, api.Base, "u"))
	want := api.Book{
		Next:  1,
		Open:  []api.Sess{{Id: 0, Link: 3, Addr: api.Base, User: "u"}},
		Items: []api.Item{{Kind: api.IStart, Id: 0}},
	}
	if e != api.OK || !alike(b, want) {
		t.Errorf("%+v, %d", b, e)
	}
}

// P4.2: fields of which the op's row says nothing don't matter.
func TestFieldsThatDontMatter(t *testing.T) {
	noise := func(o api.Op) api.Op {
		switch o.Kind {
		case api.OOpen:
			o.Id, o.In, o.Out, o.Cause, o.At = 9, 8, 7, 6, 5
		case api.OInterim:
			o.Link, o.Addr, o.User, o.Cause, o.At = 7, 3, "other", 6, 5
		case api.OClose:
			o.Link, o.Addr, o.User, o.At = 7, 3, "other", 5
		case api.OFail:
			o.Id, o.Link, o.Addr, o.In, o.Out, o.Cause = 1, 2, 3, 4, 5, 6
		default:
			o.Id, o.Link, o.Addr, o.In, o.Out, o.Cause, o.At = 1, 2, 3, 4, 5, 6, 0
		}
		return o
	}
	var b api.Book
	for _, o := range append(ordinary(), trim()) {
		want := done(t, b, o)
		if got, e := book.Apply(b, noise(o)); e != api.OK || !alike(got, want) {
			t.Errorf("%+v: %d, %+v", noise(o), e, got)
		}
		b = want
	}
}

// try is what is done to a book, and what is answered.
type try struct {
	name string
	b    api.Book
	o    api.Op
	want api.Errno
}

// with is a book behind a change.
func with(b api.Book, change func(b *api.Book)) api.Book {
	change(&b)
	return b
}

// tryOpens are opens to the edges, and with each error of theirs; of two errors the one that is told first.
func tryOpens() []try {
	last := with(known(), func(b *api.Book) { b.Next = 1000000000 })
	full := with(filled(60), func(b *api.Book) { b.Next = 1000000000 })
	return []try{
		{"link 0", api.Book{}, open(0, api.Base, "u"), api.OK},
		{"link 7", api.Book{}, open(7, api.Base, "u"), api.OK},
		{"link -1", api.Book{}, open(-1, api.Base, "u"), api.ErrArg},
		{"link 8", api.Book{}, open(8, api.Base, "u"), api.ErrArg},
		{"an address just below", api.Book{}, open(1, 167772160, "u"), api.ErrArg},
		{"the first address", api.Book{}, open(1, 167772161, "u"), api.OK},
		{"the last address", api.Book{}, open(1, 167772166, "u"), api.OK},
		{"an address just above", api.Book{}, open(1, 167772167, "u"), api.ErrArg},
		{"address 0", api.Book{}, open(1, 0, "u"), api.ErrArg},
		{"the greatest address", api.Book{}, open(1, math.MaxUint32, "u"), api.ErrArg},
		{"a link that is held", known(), open(2, api.Base+5, "u"), api.ErrBusy},
		{"the last link that is held", known(), open(7, api.Base+5, "u"), api.ErrBusy},
		{"an address that is held", known(), open(1, api.Base+4, "u"), api.ErrBusy},
		{"the last address that is held", known(), open(1, api.Base, "u"), api.ErrBusy},
		{"a link and its own address", known(), open(0, api.Base+4, "u"), api.ErrBusy},
		{"a link that was held", known(), open(5, api.Base+5, "u"), api.OK},
		{"a user that is open", known(), open(1, api.Base+5, "ann"), api.OK},
		{"a full pool", crowded(), open(6, api.Base+3, "u"), api.ErrBusy},
		{"57", filled(57), open(1, api.Base+5, "u"), api.OK},
		{"58", filled(58), open(1, api.Base+5, "u"), api.OK},
		{"59", filled(59), open(1, api.Base+5, "u"), api.ErrFull},
		{"60", filled(60), open(1, api.Base+5, "u"), api.ErrFull},
		{"58 lines alone", stopped(58), open(1, api.Base+5, "u"), api.OK},
		{"60 lines alone", stopped(60), open(1, api.Base+5, "u"), api.ErrFull},
		{"Next one less than MaxIds", api.Book{Next: 999999999}, open(1, api.Base, "u"), api.OK},
		{"Next at MaxIds", last, open(1, api.Base+5, "u"), api.ErrFull},
		{"Next at MaxIds, of nothing", api.Book{Next: 1000000000}, open(0, api.Base, "u"), api.ErrFull},
		{"no address and busy link", known(), open(2, api.Base+6, "u"), api.ErrArg},
		{"no address and no room", filled(60), open(1, api.Base-1, "u"), api.ErrArg},
		{"no address and no number", last, open(1, api.Base+6, "u"), api.ErrArg},
		{"no address of a full pool", crowded(), open(0, api.Base+6, "u"), api.ErrArg},
		{"busy link and no room", filled(59), open(3, api.Base+1, "u"), api.ErrBusy},
		{"busy address and no room", filled(60), open(1, api.Base, "u"), api.ErrBusy},
		{"busy link and no number", last, open(7, api.Base+5, "u"), api.ErrBusy},
		{"busy address and no number", last, open(1, api.Base+1, "u"), api.ErrBusy},
		{"no room and no number", full, open(1, api.Base+1, "u"), api.ErrFull},
		{"no link and no room", full, open(8, api.Base+1, "u"), api.ErrArg},
		{"no user and a busy link", known(), open(2, api.Base+5, ""), api.ErrArg},
	}
}

// tryCounts are interims and closes likewise.
func tryCounts() []try {
	bad := func(o api.Op) api.Op { o.Cause = 256; return o }
	full := filled(60)
	return []try{
		{"octets that are the same", known(), interim(0, 6, 7), api.OK},
		{"one more In", known(), interim(0, 7, 7), api.OK},
		{"one more Out", known(), interim(0, 6, 8), api.OK},
		{"one less In", known(), interim(0, 5, 7), api.ErrLess},
		{"one less Out", known(), interim(0, 6, 6), api.ErrLess},
		{"less In, more Out", known(), interim(0, 5, 100), api.ErrLess},
		{"more In, less Out", known(), interim(0, 100, 6), api.ErrLess},
		{"all octets", known(), interim(2, math.MaxUint64, math.MaxUint64), api.OK},
		{"octets beyond 63 bits", known(), interim(2, 1<<63, 1<<63), api.OK},
		{"the last open one", known(), interim(3, 0, 0), api.OK},
		{"one that has stopped", known(), interim(1, 9, 9), api.ErrNone},
		{"the next number", known(), interim(4, 9, 9), api.ErrNone},
		{"the last number", known(), interim(1000000000, 9, 9), api.ErrNone},
		{"beyond the last number", known(), interim(1000000001, 9, 9), api.ErrArg},
		{"number -1", known(), interim(-1, 9, 9), api.ErrArg},
		{"of nothing", api.Book{}, interim(0, 0, 0), api.ErrNone},
		{"58", filled(58), interim(0, 10, 20), api.OK},
		{"59", filled(59), interim(0, 10, 20), api.OK},
		{"60", full, interim(0, 10, 20), api.ErrFull},
		{"none and no room", full, interim(1, 10, 20), api.ErrNone},
		{"less In and no room", full, interim(0, 9, 20), api.ErrLess},
		{"less Out and no room", full, interim(0, 10, 19), api.ErrLess},
		{"may not and none", full, bad(interim(1, 10, 20)), api.ErrArg},
		{"may not and less", known(), bad(interim(0, 0, 0)), api.ErrArg},
		{"may not and no room", full, bad(interim(0, 10, 20)), api.ErrArg},
		{"stop at the same octets", known(), stop(0, 6, 7, 1), api.OK},
		{"stop at more", known(), stop(0, 7, 8, 1), api.OK},
		{"stop at one less In", known(), stop(0, 5, 7, 1), api.ErrLess},
		{"stop at one less Out", known(), stop(0, 6, 6, 1), api.ErrLess},
		{"stop at less In, more Out", known(), stop(2, 1<<40-1, 5, 1), api.ErrLess},
		{"stop what has stopped", known(), stop(1, 9, 9, 1), api.ErrNone},
		{"stop the next number", known(), stop(4, 9, 9, 1), api.ErrNone},
		{"stop of nothing", api.Book{}, stop(0, 0, 0, 0), api.ErrNone},
		{"stop the last one", known(), stop(3, 0, 0, 1), api.OK},
		{"stop by -1", known(), stop(0, 6, 7, -1), api.ErrArg},
		{"stop by 0", known(), stop(0, 6, 7, 0), api.OK},
		{"stop by 255", known(), stop(0, 6, 7, 255), api.OK},
		{"stop by 256", known(), stop(0, 6, 7, 256), api.ErrArg},
		{"stop where no room is", full, stop(0, 10, 20, 1), api.OK},
		{"stop none by 256", known(), stop(1, 9, 9, 256), api.ErrArg},
		{"stop at less by -1", known(), stop(0, 0, 0, -1), api.ErrArg},
	}
}

// tryLocks are failures, passes and trims likewise.
func tryLocks() []try {
	long := strings.Repeat("x", 16)
	bad := func(o api.Op) api.Op { o.Link = 8; return o }
	longs := with(failed(3), func(b *api.Book) { b.Locks[1].User = long })
	return []try{
		{"a user of 0 bytes", known(), fail("", 9), api.ErrArg},
		{"a user of 1 byte", known(), fail("b", 9), api.OK},
		{"a user of 16 bytes", known(), fail(long, 9), api.OK},
		{"a user of 17 bytes", known(), fail(long+"x", 9), api.ErrArg},
		{"At -1", api.Book{}, fail("u", -1), api.ErrArg},
		{"At 0", api.Book{}, fail("u", 0), api.OK},
		{"At 10^9", known(), fail("bob", 1000000000), api.OK},
		{"At one more", known(), fail("bob", 1000000001), api.ErrArg},
		{"the same At", known(), fail("bob", 9), api.OK},
		{"At one less", known(), fail("bob", 8), api.ErrLess},
		{"another's At", known(), fail("ann", 8), api.OK},
		{"an eighth", failed(7), fail("h", 0), api.OK},
		{"a ninth", failed(8), fail("i", 100), api.ErrFull},
		{"one of eight", failed(8), fail("c", 7), api.OK},
		{"one of eight, too early", failed(8), fail("h", 6), api.ErrLess},
		{"a ninth that may not", failed(8), bad(fail("i", 100)), api.ErrArg},
		{"one that may not, too early", failed(8), bad(fail("h", 6)), api.ErrArg},
		{"pass", failed(8), pass("a"), api.OK},
		{"pass the last", failed(8), pass("h"), api.OK},
		{"pass the only one", failed(1), pass("a"), api.OK},
		{"pass one of 16 bytes", longs, pass(long), api.OK},
		{"pass one of 17 bytes", longs, pass(long + "x"), api.ErrArg},
		{"pass nobody", known(), pass(""), api.ErrArg},
		{"pass who hasn't failed", known(), pass("ann"), api.ErrNone},
		{"pass part of a name", known(), pass("bo"), api.ErrNone},
		{"pass other letters", known(), pass("BOB"), api.ErrNone},
		{"pass of nothing", api.Book{}, pass("u"), api.ErrNone},
		{"pass who may not, and hasn't failed", known(), bad(pass("ann")), api.ErrArg},
		{"trim", known(), trim(), api.OK},
		{"trim nothing", api.Book{}, trim(), api.OK},
		{"trim what is full", stopped(60), trim(), api.OK},
		{"trim of nobody", known(), api.Op{Kind: api.OTrim}, api.ErrArg},
		{"trim that may not", stopped(60), bad(trim()), api.ErrArg},
		{"kind 0", known(), api.Op{Kind: 0, User: "u"}, api.ErrArg},
		{"kind 7", known(), api.Op{Kind: 7, User: "u"}, api.ErrArg},
		{"kind -1", known(), api.Op{Kind: -1, User: "u"}, api.ErrArg},
		{"nothing", known(), api.Op{}, api.ErrArg},
	}
}

// tries are all that are known.
func tries() []try { return slices.Concat(tryOpens(), tryCounts(), tryLocks()) }

// doing is what a row of the chapter's table says is done, when nothing is wrong.
func doing(b api.Book, o api.Op) api.Book {
	b = clone(b)
	switch o.Kind {
	case 1:
		b.Open = append(b.Open, api.Sess{Id: b.Next, Link: o.Link, Addr: o.Addr, User: o.User})
		b.Items = append(b.Items, api.Item{Kind: 1, Id: b.Next})
		b.Next++
	case 2, 3:
		var open []api.Sess
		for _, s := range b.Open {
			if s.Id == o.Id {
				s.In, s.Out = o.In, o.Out
			}
			if s.Id != o.Id || o.Kind == 2 {
				open = append(open, s)
			}
		}
		b.Open = open
		line := api.Item{Kind: o.Kind, Id: o.Id, In: o.In, Out: o.Out}
		if o.Kind == 3 {
			line.Cause = o.Cause
		}
		b.Items = append(b.Items, line)
	case 4, 5:
		b.Locks = doingLocks(b.Locks, o)
	case 6:
		open := map[int]bool{}
		for _, s := range b.Open {
			open[s.Id] = true
		}
		var items []api.Item
		for _, l := range b.Items {
			if open[l.Id] {
				items = append(items, l)
			}
		}
		b.Items = items
	}
	return b
}

// doingLocks are Locks behind a failure, or a pass.
func doingLocks(locks []api.Lock, o api.Op) []api.Lock {
	var out []api.Lock
	found := false
	for _, l := range locks {
		if l.User != o.User {
			out = append(out, l)
		} else if found = true; o.Kind == 4 {
			out = append(out, api.Lock{User: l.User, N: min(255, l.N+1), At: o.At})
		}
	}
	if o.Kind == 4 && !found {
		out = append(out, api.Lock{User: o.User, N: 1, At: o.At})
	}
	return out
}

// P4.2, P4.4: each kind of op, its errors, two at once, and the edges: with an error the book comes out as it was, without one what the table says; always right.
func TestApply(t *testing.T) {
	for _, x := range tries() {
		if !right(x.b) {
			t.Errorf("%s: what is handed in isn't right", x.name)
		}
		want := x.b
		if x.want == api.OK {
			want = doing(x.b, x.o)
		}
		b, e := book.Apply(x.b, x.o)
		if e != x.want || !alike(b, want) {
			t.Errorf("%s: %d, %+v", x.name, e, b)
		}
		if !right(b) || !book.Right(b) {
			t.Errorf("%s: not right: %+v", x.name, b)
		}
	}
}

// P4.2: an op that may not be done is ErrArg, whatever is wrong of it, and the book stays.
func TestApplyMayNot(t *testing.T) {
	spoils := map[string]func(o *api.Op){
		"Kind 0":     func(o *api.Op) { o.Kind = 0 },
		"Kind 7":     func(o *api.Op) { o.Kind = 7 },
		"Id -1":      func(o *api.Op) { o.Id = -1 },
		"Id above":   func(o *api.Op) { o.Id = 1000000001 },
		"Link -1":    func(o *api.Op) { o.Link = -1 },
		"Link 8":     func(o *api.Op) { o.Link = 8 },
		"At -1":      func(o *api.Op) { o.At = -1 },
		"At above":   func(o *api.Op) { o.At = 1000000001 },
		"Cause -1":   func(o *api.Op) { o.Cause = -1 },
		"Cause 256":  func(o *api.Op) { o.Cause = 256 },
		"no user":    func(o *api.Op) { o.User = "" },
		"a long one": func(o *api.Op) { o.User = strings.Repeat("x", 17) },
	}
	var b api.Book
	for _, o := range append(ordinary(), trim()) {
		for name, spoil := range spoils {
			x := o
			spoil(&x)
			if got, e := book.Apply(b, x); e != api.ErrArg || !alike(got, b) {
				t.Errorf("kind %d with %s: %d, %+v", o.Kind, name, e, got)
			}
		}
		b = done(t, b, o)
	}
}

// P4.2: six sessions hold all of the pool, and one that is closed gives back its link and its address, but not its number.
func TestFullPool(t *testing.T) {
	var b api.Book
	for i := range 6 {
		addr, is := book.Free(b)
		if !is || addr != 167772161+uint32(i) {
			t.Fatalf("%d sessions: Free = %d, %t", i, addr, is)
		}
		b = done(t, b, open(7-i, addr, "u"))
	}
	for addr := uint32(167772161); addr <= 167772166; addr++ {
		if x, e := book.Apply(b, open(0, addr, "u")); e != api.ErrBusy || !alike(x, b) {
			t.Errorf("%d of a full pool: %d", addr, e)
		}
	}
	b = done(t, b, stop(2, 0, 0, 1))
	if addr, is := book.Free(b); addr != 167772163 || !is {
		t.Errorf("behind a close Free = %d, %t", addr, is)
	}
	b = done(t, b, open(5, 167772163, "v"))
	if s := b.Open[5]; s != (api.Sess{Id: 6, Link: 5, Addr: 167772163, User: "v"}) || b.Next != 7 {
		t.Errorf("%+v", b)
	}
}

// P4.2: numbers go up to one below MaxIds, and no farther, also where all else is gone.
func TestLastNumber(t *testing.T) {
	b := done(t, api.Book{Next: 999999999}, open(0, api.Base, "u"))
	if b.Next != 1000000000 || b.Open[0].Id != 999999999 || !book.Right(b) {
		t.Fatalf("%+v", b)
	}
	b = done(t, b, interim(999999999, 1, 1), stop(999999999, 2, 2, 0), trim())
	if x, e := book.Apply(b, open(0, api.Base, "u")); e != api.ErrFull || !alike(x, b) {
		t.Errorf("%d, %+v", e, x)
	}
}

// P4.2, P4.4: failures count up to 255 and stay there, whatever is done in between, and go back just by a pass.
func TestFailures(t *testing.T) {
	b := done(t, api.Book{}, fail("other", 1))
	for n := 1; n <= 300; n++ {
		b = done(t, b, fail("u", n))
		want := []api.Lock{{User: "other", N: 1, At: 1}, {User: "u", N: min(n, 255), At: n}}
		if !slices.Equal(b.Locks, want) {
			t.Fatalf("failure %d: %+v", n, b.Locks)
		}
		if n%50 == 0 {
			was := b.Locks
			b = done(t, b, open(1, api.Base, "u"), interim(b.Next, 1, 1), trim(), stop(b.Next, 1, 1, 0))
			b = book.Close(done(t, b, open(1, api.Base, "u"), trim()))
			if !slices.Equal(b.Locks, was) {
				t.Fatalf("failures are gone: %+v", b.Locks)
			}
		}
	}
	b = done(t, b, pass("u"), fail("u", 0))
	if !slices.Equal(b.Locks, []api.Lock{{User: "other", N: 1, At: 1}, {User: "u", N: 1, At: 0}}) {
		t.Errorf("behind a pass: %+v", b.Locks)
	}
	for _, n := range []int{253, 254, 255} {
		b := api.Book{Locks: []api.Lock{{User: "u", N: n, At: 3}}}
		if x := done(t, b, fail("u", 4)); x.Locks[0] != (api.Lock{User: "u", N: min(255, n+1), At: 4}) {
			t.Errorf("N %d: %+v", n, x.Locks)
		}
	}
}

// P4.2: a trim leaves the lines of open sessions, in order, and nothing else changes.
func TestTrim(t *testing.T) {
	for i, b := range samples(t) {
		x := done(t, b, trim())
		if !alike(x, doing(b, trim())) {
			t.Errorf("sample %d: %+v", i, x)
		}
		if again := done(t, x, trim()); !alike(again, x) {
			t.Errorf("sample %d: trimmed again it is another", i)
		}
	}
	if x := done(t, stopped(60), trim()); len(x.Items) != 0 || x.Next != 30 {
		t.Errorf("%+v", x)
	}
}

// errorOf is the first error of an op that the chapter's table tells.
func errorOf(b api.Book, o api.Op) api.Errno {
	all := len(b.Items) + len(b.Open)
	link := slices.IndexFunc(b.Open, func(s api.Sess) bool { return s.Link == o.Link })
	addr := slices.IndexFunc(b.Open, func(s api.Sess) bool { return s.Addr == o.Addr })
	id := slices.IndexFunc(b.Open, func(s api.Sess) bool { return s.Id == o.Id })
	user := slices.IndexFunc(b.Locks, func(l api.Lock) bool { return l.User == o.User })
	rows := map[int][]bool{
		1: {1: o.Addr < 167772161 || o.Addr > 167772166, 6: link >= 0 || addr >= 0, 4: all > 58 || b.Next == 1000000000, 8: false},
		2: {5: id < 0, 7: id >= 0 && (b.Open[max(0, id)].In > o.In || b.Open[max(0, id)].Out > o.Out), 4: all > 59, 8: false},
		3: {5: id < 0, 7: id >= 0 && (b.Open[max(0, id)].In > o.In || b.Open[max(0, id)].Out > o.Out), 8: false},
		4: {7: user >= 0 && b.Locks[max(0, user)].At > o.At, 4: user < 0 && len(b.Locks) == 8, 8: false},
		5: {5: user < 0, 8: false},
	}
	order := map[int][]int{1: {1, 6, 4}, 2: {5, 7, 4}, 3: {5, 7}, 4: {7, 4}, 5: {5}}
	if !may(o) {
		return api.ErrArg
	}
	for _, e := range order[o.Kind] {
		if rows[o.Kind][e] {
			return api.Errno(e)
		}
	}
	return api.OK
}

// P4.2, P4.4: long rows of drawn ops, held against the chapter's table.
func TestLongRuns(t *testing.T) {
	r := rand.New(rand.NewSource(44))
	seen := map[[2]int]int{}
	for range 60 {
		b := api.Book{}
		for range 250 {
			o := drawn(r, b)
			x, e := book.Apply(b, o)
			want, wantE := b, errorOf(b, o)
			if wantE == api.OK {
				want = doing(b, o)
			}
			if e != wantE || !alike(x, want) || !right(x) || !book.Right(x) {
				t.Fatalf("%+v: %d, not %d: %+v", o, e, wantE, x)
			}
			seen[[2]int{o.Kind, int(e)}]++
			b = x
			if r.Intn(50) == 0 {
				b = book.Close(b)
			}
		}
	}
	for _, kind := range [][]int{{1, 0, 1, 6, 4}, {2, 0, 1, 5, 7, 4}, {3, 0, 1, 5, 7}, {4, 0, 1, 7, 4}, {5, 0, 1, 5}, {6, 0}} {
		for _, e := range kind[1:] {
			if seen[[2]int{kind[0], e}] == 0 {
				t.Errorf("kind %d never came to %d", kind[0], e)
			}
		}
	}
}

// P4.3: Close of a book with none open, with one, with some, as reckoned by hand.
func TestClose(t *testing.T) {
	closed := func(b api.Book, more ...api.Item) api.Book {
		b = clone(b)
		b.Open, b.Items = nil, append(b.Items, more...)
		return b
	}
	some := closed(known(), api.Item{Kind: 3, Id: 0, In: 6, Out: 7, Cause: 9}, api.Item{Kind: 3, Id: 2, In: 1 << 40, Cause: 9}, api.Item{Kind: 3, Id: 3, Cause: 9})
	for _, x := range []struct {
		name    string
		b, want api.Book
	}{
		{"nothing", api.Book{}, api.Book{}},
		{"none open", stopped(10), stopped(10)},
		{"none open, but failures", failed(8), failed(8)},
		{"none open, and no room", stopped(60), stopped(60)},
		{"one", filled(3), closed(filled(3), api.Item{Kind: 3, Id: 0, In: 10, Out: 20, Cause: 9})},
		{"one, and no room", filled(60), closed(filled(60), api.Item{Kind: 3, Id: 0, In: 10, Out: 20, Cause: 9})},
		{"some", known(), some},
	} {
		if b := book.Close(x.b); !alike(b, x.want) {
			t.Errorf("%s: %+v", x.name, b)
		}
	}
}

// P4.3, P4.4: behind Close nothing is open, each start has its stop, it is right, and closed again it is the same; it is what the closes come to.
func TestCloseOfSamples(t *testing.T) {
	for i, b := range samples(t) {
		x := book.Close(b)
		want := b
		for _, s := range b.Open {
			want = doing(want, stop(s.Id, s.In, s.Out, 9))
		}
		if !alike(x, want) || !right(x) || !book.Right(x) {
			t.Errorf("sample %d: %+v", i, x)
		}
		starts, stops := 0, 0
		for _, l := range x.Items {
			if l.Kind == api.IStart {
				starts++
			}
			if l.Kind == api.IStop {
				stops++
			}
		}
		if len(x.Open) != 0 || starts != stops {
			t.Errorf("sample %d: %d open, %d starts, %d stops", i, len(x.Open), starts, stops)
		}
		if again := book.Close(x); !alike(again, x) {
			t.Errorf("sample %d: closed again it is another", i)
		}
		if addr, is := book.Free(x); addr != api.Base || !is {
			t.Errorf("sample %d: behind Close %d is free", i, addr)
		}
		if y, e := book.Apply(x, interim(max(0, x.Next-1), math.MaxUint64, math.MaxUint64)); e != api.ErrNone || !alike(y, x) {
			t.Errorf("sample %d: behind Close a session is still counted", i)
		}
	}
}
