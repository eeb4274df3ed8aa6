package gate_test

import (
	"fmt"
	"math"
	"slices"
	"strings"
	"testing"

	"portreeve/api"
	"portreeve/gate"
)

// ways are the four ways in which somebody may come.
var ways = [][2]bool{{false, false}, {false, true}, {true, false}, {true, true}}

// answers are all that the calls tell of a user at a time, as a text.
func answers(b api.Book, user string, now int) string {
	n, at := gate.Failed(b, user)
	out := fmt.Sprint(n, at, gate.Locked(b, user, now), gate.Until(b, user))
	for _, w := range ways {
		out += fmt.Sprintf(" %+v", told(b, user, w[0], w[1], now))
	}
	return out
}

// books are books in which "u" has failed in several ways.
func books() []api.Book {
	return []api.Book{{}, failed("u", 1, 5), failed("u", 2, 50), failed("u", 3, 5), failed("u", 255, 50), crowded()}
}

// R1, R5: wrong times, users and books let no call panic; where a lockout's end is beyond all ints, it is still ahead.
func TestWrongArguments(t *testing.T) {
	far := []int{math.MinInt, math.MinInt + 19, -1000000001, -20, -1, 1000000001, math.MaxInt - 20, math.MaxInt - 19, math.MaxInt}
	for _, user := range []string{"", "u", strings.Repeat("u", 17), strings.Repeat("x", 1<<16)} {
		for _, n := range []int{math.MinInt, -1, 0, 3, 256, math.MaxInt} {
			for _, at := range far {
				b := failed(user, n, at)
				b.Locks = append(b.Locks, b.Locks...)
				for _, now := range far {
					answers(b, user, now)
				}
			}
		}
	}
	for _, at := range far[6:] {
		for i, now := range far {
			if want := i < 8 || at > far[6]; gate.Locked(failed("u", 3, at), "u", now) != want {
				t.Errorf("last failure at %d: %t at %d", at, !want, now)
			}
		}
	}
	if gate.Locked(failed("u", 3, math.MinInt), "u", math.MaxInt) || !gate.Locked(failed("u", 3, math.MinInt), "u", math.MinInt+19) {
		t.Error("a lockout of the least time")
	}
}

// P16.2: a name that nobody can have is answered by the words of the promise as any other is.
func TestWrongNames(t *testing.T) {
	for _, user := range []string{"", strings.Repeat("u", 17)} {
		hold(t, told(failed("u", 3, 5), user, false, false, 6), false)
		hold(t, told(failed("u", 3, 5), user, true, true, 6), true)
		hold(t, told(failed("u", 3, 5), user, true, false, 6), false, oFail(user, 6))
	}
}

// R3: a book isn't written into, nor the room behind its lists.
func TestLeavesTheBook(t *testing.T) {
	for i, b := range books() {
		b.Locks = slices.Grow(b.Locks, 3)
		b.Open, b.Items = make([]api.Sess, 1, 4), make([]api.Item, 1, 4)
		was := fmt.Sprint(b.Next, b.Open[:4], b.Items[:4], b.Locks[:cap(b.Locks)])
		for _, now := range times {
			answers(b, "u", now)
			answers(b, "new", now)
		}
		if fmt.Sprint(b.Next, b.Open[:4], b.Items[:4], b.Locks[:cap(b.Locks)]) != was {
			t.Errorf("book %d was written into", i)
		}
	}
}

// R3: ops that are told are new memory: to write into them, and into the room behind them, changes nothing that is told elsewhere, be it earlier or later.
func TestApart(t *testing.T) {
	for i, b := range books() {
		was := fmt.Sprintf("%+v", b)
		for _, good := range []bool{false, true} {
			early, late := told(b, "u", true, good, 60), told(b, "u", true, good, 60)
			want := fmt.Sprintf("%+v", early)
			for n := range late.ops[:cap(late.ops)] {
				late.ops[:cap(late.ops)][n] = api.Op{Kind: 66, User: "scrawl"}
			}
			if next := told(b, "u", true, good, 60); fmt.Sprintf("%+v", early) != want || fmt.Sprintf("%+v", next) != want {
				t.Errorf("book %d: %+v, then %+v, not %s", i, early, next, want)
			}
		}
		if fmt.Sprintf("%+v", b) != was {
			t.Errorf("book %d: %+v, not %s", i, b, was)
		}
	}
}

// R4: what was told is told again, in another order, and of a book that is the same in other memory.
func TestSameAgain(t *testing.T) {
	first := []string{}
	for _, b := range books() {
		for _, now := range times {
			first = append(first, answers(b, "u", now))
		}
	}
	i := len(first)
	for _, b := range slices.Backward(books()) {
		for _, now := range slices.Backward(times) {
			i--
			if got := answers(b, "u", now); got != first[i] {
				t.Fatalf("%s, then %s", first[i], got)
			}
		}
	}
}
