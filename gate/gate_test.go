package gate_test

import (
	"math/rand"
	"testing"

	"portreeve/api"
	"portreeve/book"
	"portreeve/gate"
)

// times are times about the edges of a lockout that began at one of them.
var times = []int{0, 1, 2, 19, 20, 21, 22, 39, 40, 41, 500, 1000000000 - 21, 1000000000 - 20, 1000000000 - 19, 1000000000 - 1, 1000000000}

// P16.1: Failed tells the count and the time of the user asked for, wherever it stands; of who hasn't failed 0 and 0.
func TestFailed(t *testing.T) {
	b := api.Book{Locks: []api.Lock{{User: "ann", N: 1, At: 9}, {User: "an", N: 255, At: 1000000000}, {User: "bob", N: 7, At: 0}}}
	want := map[string][2]int{"ann": {1, 9}, "an": {255, 1000000000}, "bob": {7, 0}, "a": {}, "anna": {}, "": {}, "Bob": {}, "bob\x00": {}, "eve": {}}
	for user, w := range want {
		if n, at := gate.Failed(b, user); n != w[0] || at != w[1] {
			t.Errorf("%q: %d %d", user, n, at)
		}
	}
}

// P16.1: nobody has failed in an empty book, nor who only has a session, or a line.
func TestFailedOfNobody(t *testing.T) {
	b, e := book.Apply(api.Book{}, api.Op{Kind: api.OOpen, Addr: api.Base, User: "ann", At: 7})
	if e != api.OK {
		t.Fatal(e)
	}
	for _, b := range []api.Book{{}, b} {
		n, at := gate.Failed(b, "ann")
		if n != 0 || at != 0 || gate.Locked(b, "ann", 0) || gate.Until(b, "ann") != 0 {
			t.Errorf("%d %d, locked %t, until %d", n, at, gate.Locked(b, "ann", 0), gate.Until(b, "ann"))
		}
	}
}

// P16.1: a lockout needs three failures, begins ahead of any time, and ends twenty ticks behind the last failure.
func TestLocked(t *testing.T) {
	for _, user := range names {
		for _, n := range []int{1, 2, 3, 4, 254, 255} {
			for _, at := range times {
				b := failed(user, n, at)
				for _, now := range times {
					if got := gate.Locked(b, user, now); got != (n > 2 && now-at <= 19) {
						t.Fatalf("%q, %d failures, last at %d: %t at %d", user, n, at, got, now)
					}
				}
			}
		}
	}
}

// P16.1: Locked speaks of the user asked for alone: others that are locked out make no difference to it.
func TestLockedOfOthers(t *testing.T) {
	b := api.Book{Locks: []api.Lock{{User: "uu", N: 9, At: 5}, {User: "u", N: 2, At: 5}, {User: "v", N: 3, At: 5}}}
	for user, want := range map[string]int{"uu": 1, "u": 0, "v": 1, "w": 0, "": 0} {
		if gate.Locked(b, user, 6) != (want == 1) {
			t.Errorf("%q: %t", user, gate.Locked(b, user, 6))
		}
	}
}

// P16.1: Until is the last failure's time and twenty, from three failures on, whether that time has come or not; else 0.
func TestUntil(t *testing.T) {
	if b := failed("u", 3, 7); gate.Until(b, "u") != 27 || gate.Until(b, "v") != 0 || gate.Until(b, "behind") != 1000000020 {
		t.Error(gate.Until(b, "u"), gate.Until(b, "v"), gate.Until(b, "behind"))
	}
	for _, at := range times {
		for n, want := range map[int]int{1: 0, 2: 0, 3: at + 20, 4: at + 20, 255: at + 20} {
			if got := gate.Until(failed("u", n, at), "u"); got != want {
				t.Errorf("%d failures, last at %d: until %d", n, at, got)
			}
		}
	}
}

// P16.1: Until is the first time, from the last failure on, at which the user isn't locked out, be it counted up tick by tick.
func TestUntilIsFirst(t *testing.T) {
	for _, at := range times {
		for _, n := range []int{3, 4, 255} {
			b := failed("u", n, at)
			now := at
			for gate.Locked(b, "u", now) {
				now++
			}
			if gate.Until(b, "u") != now {
				t.Errorf("last at %d: until %d, not %d", at, gate.Until(b, "u"), now)
			}
		}
	}
}

// P16.2: who isn't known doesn't come in, and nothing is done, whatever it has failed and whatever it answers.
func TestUnknown(t *testing.T) {
	for _, b := range []api.Book{{}, failed("u", 1, 5), failed("u", 3, 5), crowded()} {
		for _, now := range times {
			for _, good := range []bool{false, true} {
				hold(t, told(b, "u", false, good, now), false)
			}
		}
	}
}

// P16.2: who is locked out doesn't come in, and nothing is done: not even what it gets wrong is counted.
func TestLockedOut(t *testing.T) {
	for _, n := range []int{3, 4, 255} {
		for _, now := range []int{0, 99, 100, 101, 119} {
			for _, good := range []bool{false, true} {
				hold(t, told(failed("u", n, 100), "u", true, good, now), false)
			}
		}
	}
}

// P16.2: behind a lockout it is as ahead of it: who is good comes in, and has not failed; who isn't has failed once more.
func TestBehindLockout(t *testing.T) {
	for _, n := range []int{3, 4, 255} {
		for _, now := range []int{120, 121, 5000, 1000000000} {
			hold(t, told(failed("u", n, 100), "u", true, true, now), true, oPass("u"))
			hold(t, told(failed("u", n, 100), "u", true, false, now), false, oFail("u", now))
		}
	}
}

// P16.2: who is known and good comes in; an op is done just if it has failed.
func TestGood(t *testing.T) {
	for _, user := range names {
		for _, now := range times {
			for n := 1; n < 3; n++ {
				hold(t, told(failed(user, n, 30), user, true, true, now), true, oPass(user))
			}
			hold(t, told(failed("other one", 1, 30), user, true, true, now), true)
			hold(t, told(api.Book{}, user, true, true, now), true)
			hold(t, told(crowded(), user, true, true, now), true)
		}
	}
}

// P16.2: who is known and not good has failed, at that time; at its last failure's, if that is later.
func TestBad(t *testing.T) {
	for _, user := range names {
		for _, now := range times {
			hold(t, told(api.Book{}, user, true, false, now), false, oFail(user, now))
			hold(t, told(failed("other one", 1, 1000000000), user, true, false, now), false, oFail(user, now))
			hold(t, told(crowded(), user, true, false, now), false, oFail(user, now))
			for n := 1; n < 3; n++ {
				hold(t, told(failed(user, n, 0), user, true, false, now), false, oFail(user, now))
				hold(t, told(failed(user, n, 1000000000), user, true, false, now), false, oFail(user, 1000000000))
			}
		}
	}
	hold(t, told(failed("u", 2, 40), "u", true, false, 39), false, oFail("u", 40))
	hold(t, told(failed("u", 2, 40), "u", true, false, 40), false, oFail("u", 40))
	hold(t, told(failed("u", 2, 40), "u", true, false, 41), false, oFail("u", 41))
}

// P16.3: the ops can be done, an OPass where Locks is full too; only an OFail of one more may find no room.
func TestOpsWhereFull(t *testing.T) {
	full := crowded()
	for _, l := range full.Locks {
		b, in := after(t, full, l.User, true, 50)
		if n, at := gate.Failed(b, l.User); !in || n != 0 || at != 0 || len(b.Locks) != 7 {
			t.Errorf("%q is good: %t %d %d", l.User, in, n, at)
		}
		b, in = after(t, full, l.User, false, 50)
		if n, at := gate.Failed(b, l.User); in || n != l.N+1 || at != 50 {
			t.Errorf("%q isn't: %t %d %d", l.User, in, n, at)
		}
	}
	got := told(full, "new", true, false, 50)
	hold(t, got, false, oFail("new", 50))
	if _, e := book.Apply(full, got.ops[0]); e != api.ErrFull {
		t.Error(e)
	}
}

// P16.3: an OFail can be done though time has gone back, and the last failure's time stays.
func TestOpsInThePast(t *testing.T) {
	b, _ := after(t, api.Book{}, "u", false, 1000000000)
	b, _ = after(t, b, "u", false, 0)
	if n, at := gate.Failed(b, "u"); n != 2 || at != 1000000000 {
		t.Error(n, at)
	}
}

// P16.3: behind three failures, one after another, nobody comes in ahead of Until, then it does, and has not failed any more.
func TestThreeFailures(t *testing.T) {
	for _, user := range names[:8] {
		b := crowded()
		b.Locks = b.Locks[:7]
		for n, now := range []int{4, 6, 7} {
			next, in := after(t, b, user, false, now)
			if failed, at := gate.Failed(next, user); in || failed != n+1 || at != now {
				t.Fatalf("%q: %t %d %d", user, in, failed, at)
			}
			b = next
		}
		if gate.Until(b, user) != 27 {
			t.Fatalf("%q: until %d", user, gate.Until(b, user))
		}
		for now := 0; now < 27; now++ {
			for _, good := range []bool{false, true} {
				hold(t, told(b, user, true, good, now), false)
			}
		}
		b, in := after(t, b, user, true, 27)
		if n, at := gate.Failed(b, user); !in || n != 0 || at != 0 || gate.Until(b, user) != 0 {
			t.Fatalf("%q at 27: %t %d %d", user, in, n, at)
		}
	}
}

// P16.3: a failure behind a lockout locks out anew, at once; so it goes on, past 255 failures too.
func TestFailsOnAndOn(t *testing.T) {
	var b api.Book
	now := 0
	for n := range 300 {
		next, in := after(t, b, "u", false, now)
		count, at := gate.Failed(next, "u")
		if in || count != min(n+1, 255) || at != now || gate.Locked(next, "u", now) != (n > 1) {
			t.Fatalf("failure %d: %t %d %d", n, in, count, at)
		}
		b, now = next, max(now, gate.Until(next, "u"))
	}
}

// P16.1, P16.2, P16.3: on long drawn ways, whatever users answer and whenever, all is as it is by the times of their failures alone.
func TestLongWays(t *testing.T) {
	r := rand.New(rand.NewSource(16))
	ins, outs, full := 0, 0, 0
	for range 60 {
		b, h, now := api.Book{}, history{}, r.Intn(1000)
		for range 800 {
			now = drawnTime(r, now)
			user, known, good := names[r.Intn(len(names))], r.Intn(6) > 0, r.Intn(5) == 0
			n, at, locked := h.seen(user, now)
			gotN, gotAt := gate.Failed(b, user)
			if gotN != n || gotAt != at || gate.Locked(b, user, now) != locked {
				t.Fatalf("%q at %d: %d %d, %d %d", user, now, gotN, gotAt, n, at)
			}
			got := told(b, user, known, good, now)
			switch {
			case !known || locked:
				hold(t, got, false)
				outs++
			case good && n == 0:
				hold(t, got, true)
			case good:
				hold(t, got, true, oPass(user))
				delete(h, user)
				ins++
			default:
				if now < at {
					hold(t, got, false, oFail(user, at))
				} else {
					hold(t, got, false, oFail(user, now))
				}
			}
			for _, o := range got.ops {
				next, e := book.Apply(b, o)
				if e == api.ErrFull && o.Kind == api.OFail && n == 0 && len(b.Locks) == 8 {
					full++
				} else if e != api.OK {
					t.Fatalf("%+v: %d", o, e)
				} else if o.Kind == api.OFail {
					h[user] = append(h[user], o.At)
				}
				b = next
			}
		}
	}
	if ins < 500 || outs < 500 || full < 500 {
		t.Errorf("the ways were too short: %d %d %d", ins, outs, full)
	}
}
