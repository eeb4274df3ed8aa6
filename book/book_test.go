package book_test

import (
	"fmt"
	"maps"
	"math"
	"math/rand"
	"slices"
	"strings"
	"testing"

	"portreeve/api"
	"portreeve/book"
)

// P4.1: books that are right, to the edges.
func TestRight(t *testing.T) {
	for i, b := range samples(t) {
		if !book.Right(b) {
			t.Errorf("sample %d isn't right: %+v", i, b)
		}
	}
	edges := map[string]func(b *api.Book){
		"nothing":               func(b *api.Book) {},
		"Next at MaxIds":        func(b *api.Book) { b.Next = 1000000000 },
		"a user of 16 bytes":    func(b *api.Book) { b.Open[0].User = strings.Repeat("x", 16) },
		"a user of a nought":    func(b *api.Book) { b.Open[0].User = "\x00" },
		"one user twice open":   func(b *api.Book) { b.Open[0].User = b.Open[1].User },
		"link 6":                func(b *api.Book) { b.Open[2].Link = 6 },
		"the last address":      func(b *api.Book) { b.Open[0].Addr = 167772166 },
		"Cause 0":               func(b *api.Book) { b.Items[3].Cause = 0 },
		"Cause 255":             func(b *api.Book) { b.Items[3].Cause = 255 },
		"octets that stay":      func(b *api.Book) { b.Items[7].In, b.Open[0].In = 5, 5 },
		"a stop without octets": func(b *api.Book) { b.Items[3].In, b.Items[3].Out = 0, 0 },
		"all octets":            func(b *api.Book) { b.Items[7].In, b.Open[0].In = math.MaxUint64, math.MaxUint64 },
		"N 255":                 func(b *api.Book) { b.Locks[1].N = 255 },
		"At 0":                  func(b *api.Book) { b.Locks[0].At = 0 },
		"At 10^9":               func(b *api.Book) { b.Locks[0].At = 1000000000 },
		"a lock of 16 bytes":    func(b *api.Book) { b.Locks[1].User = strings.Repeat("x", 16) },
		"a lock of one byte":    func(b *api.Book) { b.Locks[1].User = "\xff" },
		"a lock of who is open": func(b *api.Book) { b.Locks[1].User = "dee" },
		"no lock":               func(b *api.Book) { b.Locks = nil },
		"eight locks":           func(b *api.Book) { b.Locks = failed(8).Locks },
		"a stopped one's lines gone": func(b *api.Book) {
			b.Items = slices.DeleteFunc(b.Items, func(l api.Item) bool { return l.Id == 1 })
		},
		"an interim that tells nothing new": func(b *api.Book) { b.Items = append(b.Items, api.Item{Kind: 2, Id: 3}) },
		"later sessions' lines first":       func(b *api.Book) { b.Items[0], b.Items[1] = b.Items[1], b.Items[0] },
	}
	for name, change := range edges {
		b := known()
		change(&b)
		if !book.Right(b) {
			t.Errorf("%s: not right", name)
		}
	}
}

// wrongs are books that are right but for one thing, by what that is.
func wrongs() map[string]api.Book {
	out := map[string]api.Book{}
	maps.Copy(out, changed(wrongNumbers()))
	maps.Copy(out, changed(wrongLines()))
	maps.Copy(out, changed(wrongLocks()))
	out["61 of one session"] = filled(61)
	out["62 of sessions that have stopped"] = stopped(62)
	out["61 lines, and none open"] = func() api.Book {
		b := stopped(60)
		b.Items = slices.Insert(b.Items, 1, api.Item{Kind: 2, Id: 0})
		return b
	}()
	out["nine locks"] = failed(9)
	return out
}

// changed are the known book behind each of the changes.
func changed(changes map[string]func(b *api.Book)) map[string]api.Book {
	out := map[string]api.Book{}
	for name, change := range changes {
		b := known()
		change(&b)
		out[name] = b
	}
	return out
}

func wrongNumbers() map[string]func(b *api.Book) {
	return map[string]func(b *api.Book){
		"Next below 0": func(b *api.Book) { *b = api.Book{Next: -1} },
		"Next least":   func(b *api.Book) { b.Next = math.MinInt },
		"Next above":   func(b *api.Book) { b.Next = 1000000001 },
		"Next most":    func(b *api.Book) { b.Next = math.MaxInt },
		"a number below 0": func(b *api.Book) {
			b.Open[0].Id, b.Items[0].Id, b.Items[2].Id, b.Items[7].Id = -1, -1, -1, -1
		},
		"a number of Next":       func(b *api.Book) { b.Next = 3 },
		"numbers that fall":      func(b *api.Book) { b.Open[0], b.Open[1] = b.Open[1], b.Open[0] },
		"numbers that fall last": func(b *api.Book) { b.Open[1], b.Open[2] = b.Open[2], b.Open[1] },
		"a number twice": func(b *api.Book) {
			b.Open = slices.Insert(b.Open, 1, api.Sess{Id: 0, Link: 4, Addr: api.Base + 2, User: "u", In: 6, Out: 7})
		},
		"a link twice":        func(b *api.Book) { b.Open[2].Link = 2 },
		"a link twice nearby": func(b *api.Book) { b.Open[1].Link = 2 },
		"link -1":             func(b *api.Book) { b.Open[1].Link = -1 },
		"link 8":              func(b *api.Book) { b.Open[2].Link = 8 },
		"an address twice":    func(b *api.Book) { b.Open[2].Addr = b.Open[0].Addr },
		"an address below":    func(b *api.Book) { b.Open[2].Addr = 167772160 },
		"an address above":    func(b *api.Book) { b.Open[1].Addr = 167772167 },
		"no address":          func(b *api.Book) { b.Open[0].Addr = 0 },
		"the last of all":     func(b *api.Book) { b.Open[0].Addr = math.MaxUint32 },
		"no user":             func(b *api.Book) { b.Open[1].User = "" },
		"a user of 17 bytes":  func(b *api.Book) { b.Open[2].User = strings.Repeat("x", 17) },
	}
}

func wrongLines() map[string]func(b *api.Book) {
	return map[string]func(b *api.Book){
		"no start":                  func(b *api.Book) { b.Items = slices.Delete(b.Items, 0, 1) },
		"an interim first":          func(b *api.Book) { b.Items[6].Kind = 2 },
		"only a stop":               func(b *api.Book) { b.Items = slices.Delete(b.Items, 1, 2) },
		"a start behind its lines":  func(b *api.Book) { b.Items[0], b.Items[2] = b.Items[2], b.Items[0] },
		"a start with In":           func(b *api.Book) { b.Items[0].In = 1 },
		"a start with Out":          func(b *api.Book) { b.Items[0].Out = 1 },
		"an idle start with octets": func(b *api.Book) { b.Items[6].In, b.Open[2].In = 1, 1 },
		"a start with a Cause":      func(b *api.Book) { b.Items[4].Cause = 1 },
		"two starts":                func(b *api.Book) { b.Items = slices.Insert(b.Items, 1, api.Item{Kind: 1, Id: 0}) },
		"a start at the end":        func(b *api.Book) { b.Items[7].Kind = 1 },
		"a start in between":        func(b *api.Book) { b.Items[2] = api.Item{Kind: 1, Id: 0} },
		"a start behind a stop":     func(b *api.Book) { b.Items = append(b.Items, api.Item{Kind: 1, Id: 1, In: 2, Out: 3}) },
		"In goes back":              func(b *api.Book) { b.Items[2].In = 8 },
		"Out goes back":             func(b *api.Book) { b.Items[2].Out = 8 },
		"In goes back to a stop": func(b *api.Book) {
			b.Items = slices.Insert(b.Items, 3, api.Item{Kind: 2, Id: 1, In: 3, Out: 3})
		},
		"Out goes back to a stop": func(b *api.Book) {
			b.Items = slices.Insert(b.Items, 3, api.Item{Kind: 2, Id: 1, In: 2, Out: 4})
		},
		"two stops":                   func(b *api.Book) { b.Items = slices.Insert(b.Items, 3, b.Items[3]) },
		"an interim behind its stop":  func(b *api.Book) { b.Items = append(b.Items, api.Item{Kind: 2, Id: 1, In: 2, Out: 3}) },
		"an interim with a Cause":     func(b *api.Book) { b.Items[2].Cause = 1 },
		"an interim with Cause -1":    func(b *api.Book) { b.Items[7].Cause = -1 },
		"a stop by -1":                func(b *api.Book) { b.Items[3].Cause = -1 },
		"a stop by 256":               func(b *api.Book) { b.Items[3].Cause = 256 },
		"a line of no kind":           func(b *api.Book) { b.Items[2].Kind = 0 },
		"a line of kind 4":            func(b *api.Book) { b.Items[2].Kind = 4 },
		"a last line of kind 4":       func(b *api.Book) { b.Items[7].Kind = 4 },
		"a line of kind -1":           func(b *api.Book) { b.Items[0].Kind = -1 },
		"nothing as a line":           func(b *api.Book) { b.Items = append(b.Items, api.Item{}) },
		"a stopped one of Next":       func(b *api.Book) { b.Items[1].Id, b.Items[3].Id = 4, 4 },
		"a stopped one of -1":         func(b *api.Book) { b.Items[1].Id, b.Items[3].Id = -1, -1 },
		"an open one without a line":  func(b *api.Book) { b.Items = slices.Delete(b.Items, 6, 7) },
		"an open one that stopped":    func(b *api.Book) { b.Items[7].Kind = 3 },
		"an open one with other In":   func(b *api.Book) { b.Open[0].In = 5 },
		"an open one with more In":    func(b *api.Book) { b.Open[2].In = 1 },
		"an open one with other Out":  func(b *api.Book) { b.Open[0].Out = 8 },
		"no stop, and not open":       func(b *api.Book) { b.Items = slices.Delete(b.Items, 3, 4) },
		"one line, and not open":      func(b *api.Book) { b.Open = b.Open[:2] },
		"two lines, and not open":     func(b *api.Book) { b.Open = slices.Delete(b.Open, 1, 2) },
		"all that's open left out":    func(b *api.Book) { b.Open = nil },
		"all lines left out":          func(b *api.Book) { b.Items = nil },
		"a start of one not yet told": func(b *api.Book) { b.Items = append(b.Items, api.Item{Kind: 1, Id: 4}) },
	}
}

func wrongLocks() map[string]func(b *api.Book) {
	return map[string]func(b *api.Book){
		"a user failed twice":         func(b *api.Book) { b.Locks[1].User = "bob" },
		"a lock twice":                func(b *api.Book) { b.Locks = append(b.Locks, b.Locks[0]) },
		"a lock of nobody":            func(b *api.Book) { b.Locks[0].User = "" },
		"a lock of 17 bytes":          func(b *api.Book) { b.Locks[1].User = strings.Repeat("x", 17) },
		"N 0":                         func(b *api.Book) { b.Locks[0].N = 0 },
		"N below 0":                   func(b *api.Book) { b.Locks[1].N = -1 },
		"N 256":                       func(b *api.Book) { b.Locks[1].N = 256 },
		"a lock's At -1":              func(b *api.Book) { b.Locks[0].At = -1 },
		"a lock's At 10^9 and 1":      func(b *api.Book) { b.Locks[1].At = 1000000001 },
		"a lock's At least":           func(b *api.Book) { b.Locks[1].At = math.MinInt },
		"nothing as a lock":           func(b *api.Book) { b.Locks = append(b.Locks, api.Lock{}) },
		"a lock too many, else right": func(b *api.Book) { b.Locks = failed(9).Locks },
	}
}

// P4.1: books that are right but for one thing aren't.
func TestNotRight(t *testing.T) {
	for name, b := range wrongs() {
		if book.Right(b) {
			t.Errorf("%s: right", name)
		}
		if right(b) {
			t.Errorf("%s: the tests' own right says yes", name)
		}
	}
}

// nudged is a book with one drawn thing of it changed a little, taken away, told twice, or in another place.
func nudged(r *rand.Rand, b api.Book) api.Book {
	b = clone(b)
	small := func(n int) int { return []int{n - 1, n + 1, 0, -1, 255, 256, r.Intn(9)}[r.Intn(7)] }
	octets := func(n uint64) uint64 { return []uint64{n - 1, n + 1, 0, uint64(r.Intn(9))}[r.Intn(4)] }
	if len(b.Open) > 0 && r.Intn(3) == 0 {
		i := r.Intn(len(b.Open))
		s := &b.Open[i]
		[]func(){
			func() { s.Id = small(s.Id) },
			func() { s.Link = small(s.Link) },
			func() { s.Addr += uint32(small(1)) },
			func() { s.In = octets(s.In) },
			func() { s.Out = octets(s.Out) },
			func() { s.User = strings.Repeat("u", []int{0, 1, 16, 17}[r.Intn(4)]) },
			func() { b.Open = slices.Delete(b.Open, i, i+1) },
			func() { b.Open = slices.Insert(b.Open, i, *s) },
			func() { j := r.Intn(len(b.Open)); b.Open[i], b.Open[j] = b.Open[j], b.Open[i] },
		}[r.Intn(9)]()
		return b
	}
	if len(b.Items) > 0 && r.Intn(3) > 0 {
		i := r.Intn(len(b.Items))
		l := &b.Items[i]
		[]func(){
			func() { l.Kind = r.Intn(6) - 1 },
			func() { l.Id = small(l.Id) },
			func() { l.In = octets(l.In) },
			func() { l.Out = octets(l.Out) },
			func() { l.Cause = small(l.Cause) },
			func() { b.Items = slices.Delete(b.Items, i, i+1) },
			func() { b.Items = slices.Insert(b.Items, i, *l) },
			func() { j := r.Intn(len(b.Items)); b.Items[i], b.Items[j] = b.Items[j], b.Items[i] },
		}[r.Intn(8)]()
		return b
	}
	if len(b.Locks) > 0 && r.Intn(3) > 0 {
		i := r.Intn(len(b.Locks))
		l := &b.Locks[i]
		[]func(){
			func() { l.N = small(l.N) },
			func() { l.At = small(l.At) },
			func() { l.User = strings.Repeat("u", []int{0, 1, 16, 17}[r.Intn(4)]) },
			func() { l.User = b.Locks[r.Intn(len(b.Locks))].User },
			func() { b.Locks = slices.Delete(b.Locks, i, i+1) },
		}[r.Intn(5)]()
		return b
	}
	b.Next = []int{b.Next - 1, b.Next + 1, -1, 1000000000, 1000000001}[r.Intn(5)]
	return b
}

// P4.1: Right says of drawn books, right ones and such that may not be any more, what the chapter's sentences say.
func TestRightOfDrawn(t *testing.T) {
	r := rand.New(rand.NewSource(41))
	var yes, no int
	for i, b := range samples(t) {
		for range 1500 {
			x := nudged(r, b)
			if r.Intn(3) == 0 {
				x = nudged(r, x)
			}
			want := right(x)
			if got := book.Right(x); got != want {
				t.Fatalf("sample %d: Right = %t: %+v", i, got, x)
			}
			if want {
				yes++
			} else {
				no++
			}
		}
	}
	if yes < 1000 || no < 1000 {
		t.Errorf("%d were right and %d weren't: too few to tell", yes, no)
	}
}

// P4.1: each field of an op at its edges, with each kind.
func TestMay(t *testing.T) {
	for kind := 1; kind <= 6; kind++ {
		edges := map[string]func(o *api.Op, n int){
			"Id":    func(o *api.Op, n int) { o.Id = n },
			"Link":  func(o *api.Op, n int) { o.Link = n },
			"At":    func(o *api.Op, n int) { o.At = n },
			"Cause": func(o *api.Op, n int) { o.Cause = n },
			"User":  func(o *api.Op, n int) { o.User = strings.Repeat("\xff", max(0, n)) },
		}
		from := map[string][2]int{"Id": {0, 1000000000}, "Link": {0, 7}, "At": {0, 1000000000}, "Cause": {0, 255}, "User": {1, 16}}
		for field, set := range edges {
			low, high := from[field][0], from[field][1]
			ns := []int{low - 1, low, low + 1, high - 1, high, high + 1}
			if field != "User" {
				ns = append(ns, math.MinInt, math.MaxInt, 1<<32, -1<<32)
			}
			for _, n := range ns {
				o := api.Op{Kind: kind, User: "u"}
				set(&o, n)
				if got := book.May(o); got != (n >= low && n <= high) {
					t.Errorf("kind %d with %s %d: %t", kind, field, n, got)
				}
			}
		}
		if o := (api.Op{Kind: kind, User: "u", Addr: math.MaxUint32, In: math.MaxUint64, Out: math.MaxUint64}); !book.May(o) {
			t.Errorf("kind %d: an address or octets count", kind)
		}
	}
	for _, kind := range []int{0, 7, -1, 8, 255, 257, math.MinInt, math.MaxInt} {
		if book.May(api.Op{Kind: kind, User: "u"}) {
			t.Errorf("kind %d may be done", kind)
		}
	}
}

// P4.1: the least address that none holds, of each of the pool's 64 ways to be held, whatever the order of those that hold them.
func TestFree(t *testing.T) {
	for held := range 64 {
		var b, back api.Book
		want, is := uint32(0), false
		for i := 5; i >= 0; i-- {
			addr := 167772161 + uint32(i)
			if held>>i&1 == 0 {
				want, is = addr, true
				continue
			}
			o := open(i+1, addr, "u")
			b = done(t, b, o)
			back.Open = append([]api.Sess{{Link: 7 - i, Addr: addr, User: "v"}}, back.Open...)
		}
		for order, x := range map[string]api.Book{"falling": b, "rising": back} {
			if addr, ok := book.Free(x); addr != want || ok != is {
				t.Errorf("held %06b, %s: %d, %t", held, order, addr, ok)
			}
		}
	}
	if addr, ok := book.Free(crowded()); addr != 0 || ok {
		t.Errorf("of a full pool %d is free", addr)
	}
}

// P4.1: books are the same, whatever memory they are in, and whether a list without elements is nil.
func TestSame(t *testing.T) {
	all := samples(t)
	for i, a := range all {
		if !book.Same(a, a) || !book.Same(a, clone(a)) || !book.Same(clone(a), a) {
			t.Errorf("sample %d isn't the same as itself", i)
		}
		for j, b := range all {
			if got := book.Same(a, b); got != alike(a, b) {
				t.Errorf("Same of samples %d and %d = %t", i, j, got)
			}
		}
	}
	if !book.Same(api.Book{}, api.Book{Open: []api.Sess{}, Items: []api.Item{}, Locks: []api.Lock{}}) {
		t.Error("a list without elements isn't the same as nil")
	}
}

// others are books that differ from the known one by one thing, by what that is.
func others() map[string]api.Book {
	out := changed(map[string]func(b *api.Book){
		"Next":             func(b *api.Book) { b.Next++ },
		"Open's order":     func(b *api.Book) { slices.Reverse(b.Open) },
		"lines' order":     func(b *api.Book) { b.Items[4], b.Items[6] = b.Items[6], b.Items[4] },
		"Locks' order":     func(b *api.Book) { slices.Reverse(b.Locks) },
		"nothing open":     func(b *api.Book) { b.Open = nil },
		"no lines":         func(b *api.Book) { b.Items = nil },
		"no Locks":         func(b *api.Book) { b.Locks = nil },
		"one less open":    func(b *api.Book) { b.Open = b.Open[:2] },
		"one line less":    func(b *api.Book) { b.Items = b.Items[:7] },
		"one lock less":    func(b *api.Book) { b.Locks = b.Locks[:1] },
		"one line twice":   func(b *api.Book) { b.Items = append(b.Items, b.Items[7]) },
		"a lock's user":    func(b *api.Book) { b.Locks[1].User = "faz" },
		"a lock's N":       func(b *api.Book) { b.Locks[1].N++ },
		"a lock's At":      func(b *api.Book) { b.Locks[0].At++ },
		"a longer user":    func(b *api.Book) { b.Locks[0].User += "\x00" },
		"a user's letters": func(b *api.Book) { b.Locks[0].User = "BOB" },
	})
	for i := range known().Open {
		maps.Copy(out, changed(map[string]func(b *api.Book){
			fmt.Sprint("Id of session ", i):   func(b *api.Book) { b.Open[i].Id += 10 },
			fmt.Sprint("Link of session ", i): func(b *api.Book) { b.Open[i].Link++ },
			fmt.Sprint("Addr of session ", i): func(b *api.Book) { b.Open[i].Addr++ },
			fmt.Sprint("User of session ", i): func(b *api.Book) { b.Open[i].User = "v" },
			fmt.Sprint("In of session ", i):   func(b *api.Book) { b.Open[i].In += 1 << 63 },
			fmt.Sprint("Out of session ", i):  func(b *api.Book) { b.Open[i].Out++ },
		}))
	}
	for i := range known().Items {
		maps.Copy(out, changed(map[string]func(b *api.Book){
			fmt.Sprint("Kind of line ", i):  func(b *api.Book) { b.Items[i].Kind += 3 },
			fmt.Sprint("Id of line ", i):    func(b *api.Book) { b.Items[i].Id += 10 },
			fmt.Sprint("In of line ", i):    func(b *api.Book) { b.Items[i].In++ },
			fmt.Sprint("Out of line ", i):   func(b *api.Book) { b.Items[i].Out += 1 << 32 },
			fmt.Sprint("Cause of line ", i): func(b *api.Book) { b.Items[i].Cause++ },
		}))
	}
	return out
}

// P4.1: books that differ by one field, one element, or the order of two.
func TestNotSame(t *testing.T) {
	for name, x := range others() {
		if book.Same(known(), x) || book.Same(x, known()) {
			t.Errorf("%s: the same", name)
		}
		if !book.Same(x, clone(x)) {
			t.Errorf("%s: not the same as itself", name)
		}
	}
}
