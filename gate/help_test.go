package gate_test

import (
	"fmt"
	"math/rand"
	"slices"
	"testing"

	"portreeve/api"
	"portreeve/book"
	"portreeve/gate"
)

// names are users; of some of them one begins with another, or is another but for one bit.
var names = []string{"u", "uu", "v", "U", "\x00", "\xff\xfe", "ann", "annabel of the h", "sixteen bytes of", "u\x00", "bob", "eve"}

// failed is a book in which one user has failed, among others that have too.
func failed(user string, n, at int) api.Book {
	return api.Book{Locks: []api.Lock{{User: "other", N: 200, At: 900}, {User: user, N: n, At: at}, {User: "behind", N: 3, At: api.MaxTime}}}
}

// crowded is a book in which as many as may have failed, none of them often enough.
func crowded() api.Book {
	var b api.Book
	for i := range 8 {
		b.Locks = append(b.Locks, api.Lock{User: fmt.Sprint("crowd", i), N: 1 + i%2, At: i})
	}
	return b
}

// verdict is all that Verdict told.
type verdict struct {
	in  bool
	ops []api.Op
}

// told is a verdict as Verdict tells it.
func told(b api.Book, user string, known, good bool, now int) verdict {
	in, ops := gate.Verdict(b, user, known, good, now)
	return verdict{in, ops}
}

// hold holds two verdicts against each other.
func hold(t *testing.T, got verdict, in bool, ops ...api.Op) {
	t.Helper()
	if got.in != in || !slices.Equal(got.ops, ops) {
		t.Fatalf("%+v, not %v %+v", got, in, ops)
	}
}

// oFail and oPass are the two ops that may be told, with nothing set that isn't of use.

func oFail(user string, at int) api.Op { return api.Op{Kind: 4, User: user, At: at} }

func oPass(user string) api.Op { return api.Op{Kind: 5, User: user} }

// after is a book behind what Verdict told of it, all of which can be done.
func after(t *testing.T, b api.Book, user string, good bool, now int) (api.Book, bool) {
	t.Helper()
	got := told(b, user, true, good, now)
	for _, o := range got.ops {
		next, e := book.Apply(b, o)
		if e != api.OK {
			t.Fatalf("%+v in %+v: %d", o, b.Locks, e)
		}
		b = next
	}
	return b, got.in
}

// history is what the tests keep of users: the times of all failures that were kept, one after another.
type history map[string][]int

// seen is a history's answer for a user at a time: it goes back through the last ticks, and looks whether the last failure was in one of them.
func (h history) seen(user string, now int) (n, at int, locked bool) {
	times := h[user]
	n = len(times)
	if n == 0 {
		return 0, 0, false
	}
	at = times[n-1]
	if n > 255 {
		n = 255
	}
	recent := now < at
	for back := range 20 {
		recent = recent || now-back == at
	}
	return n, at, recent && n > 2
}

// drawnTime is a time: mostly some ticks on, at times back.
func drawnTime(r *rand.Rand, now int) int {
	switch r.Intn(9) {
	case 0:
		return now + 18 + r.Intn(4)
	case 1:
		return max(0, now-r.Intn(30))
	}
	return now + r.Intn(3)
}
