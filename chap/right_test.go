package chap_test

import (
	"encoding/hex"
	"fmt"
	"math"
	"math/rand"
	"slices"
	"strings"
	"testing"

	"portreeve/api"
	"portreeve/chap"
)

// P15.1: of all small numbers just those are right that are counted up by hand: 45 that wait for nothing, of which none is Asked, and 16 that are.
func TestRight(t *testing.T) {
	right := map[[3]int]bool{}
	for _, a := range rightOnes(0) {
		right[[3]int{a.State, a.Tries, a.Left}] = true
	}
	if len(right) != 3*5+4*4 {
		t.Fatalf("%d are right", len(right))
	}
	for state := -3; state < 8; state++ {
		for tries := -3; tries < 9; tries++ {
			for left := -3; left < 9; left++ {
				a := api.Auth{State: state, Tries: tries, Left: left}
				if chap.Right(a) != right[[3]int{state, tries, left}] {
					t.Errorf("%+v: %t", a, chap.Right(a))
				}
			}
		}
	}
}

// P15.1: edges by hand.
func TestRightKnown(t *testing.T) {
	for i, x := range []struct {
		a    api.Auth
		want bool
	}{
		{api.Auth{}, true},
		{api.Auth{State: api.Asked, Tries: 1, Left: 1}, true},
		{api.Auth{State: api.Asked, Tries: 4, Left: 4}, true},
		{api.Auth{State: api.Asked, Tries: 0, Left: 4}, false},
		{api.Auth{State: api.Asked, Tries: 1, Left: 0}, false},
		{api.Auth{State: api.Asked, Tries: 1, Left: 5}, false},
		{api.Auth{State: api.Asked, Tries: 5, Left: 1}, false},
		{api.Auth{State: api.Passed, Tries: 4}, true},
		{api.Auth{State: api.Passed, Tries: 1, Left: 1}, false},
		{api.Auth{State: api.Refused, Tries: 0}, true},
		{api.Auth{State: api.Refused, Tries: 4, Left: -1}, false},
		{api.Auth{State: api.Idle, Tries: 5}, false},
		{api.Auth{State: api.Idle, Tries: -1}, false},
		{api.Auth{State: 4}, false},
		{api.Auth{State: -1}, false},
	} {
		if chap.Right(x.a) != x.want {
			t.Errorf("%d: %+v: not %t", i, x.a, x.want)
		}
	}
}

// P15.1: which Id, value, name and proof there are makes no difference.
func TestRightWhatever(t *testing.T) {
	for id := range 256 {
		for _, a := range rightOnes(byte(id)) {
			a.Who, a.Value[id%16], a.Proof[id%16] = strings.Repeat("x", id), byte(id), 0
			if !chap.Right(a) {
				t.Fatalf("%+v: not right", a)
			}
			a.Left = 5
			if chap.Right(a) {
				t.Fatalf("%+v: right", a)
			}
		}
	}
}

// P15.1, R5: numbers far off are wrong in each place, also those whose lower bits would be right.
func TestRightFar(t *testing.T) {
	for _, far := range []int{math.MinInt, math.MinInt + 1, -1 << 32, -255, 256, 257, 1 << 32, 1<<32 + 1, 1<<63 - 1} {
		for i, a := range []api.Auth{{State: far}, {State: far, Tries: 1, Left: 1}, {Tries: far}, {State: 1, Tries: far, Left: 1}, {Left: far}, {State: 1, Tries: 1, Left: far}} {
			if chap.Right(a) {
				t.Errorf("%d: %+v: right", i, a)
			}
		}
	}
}

// some are so many users, of names and secrets that may be.
func some(n int) []api.User {
	var out []api.User
	for i := range n {
		out = append(out, api.User{Name: fmt.Sprint("user", i), Secret: "secret"})
	}
	return out
}

// P15.1: at most MaxUsers.
func TestUsersCount(t *testing.T) {
	for n := range 20 {
		if chap.Users(some(n)) != (n <= 8) {
			t.Errorf("%d users: %t", n, n > 8)
		}
	}
}

// P15.1: names of 1 to 16 bytes, secrets of 1 to 32, at whatever place, and whatever bytes they are.
func TestUsersLengths(t *testing.T) {
	for _, unit := range []string{"a", "\x00", "\xff"} {
		for n := range 40 {
			for at := range 8 {
				l := some(8)
				l[at].Name = strings.Repeat(unit, n)
				if chap.Users(l) != (n >= 1 && n <= 16) {
					t.Errorf("a name of %d bytes at %d: %t", n, at, chap.Users(l))
				}
				l = some(8)
				l[at].Secret = strings.Repeat(unit, n)
				if chap.Users(l) != (n >= 1 && n <= 32) {
					t.Errorf("a secret of %d bytes at %d: %t", n, at, chap.Users(l))
				}
			}
		}
	}
	runes := some(2)
	runes[0].Name = strings.Repeat("é", 8)
	if !chap.Users(runes) {
		t.Error("eight runes of two bytes may not be")
	}
	if runes[0].Name += "é"; chap.Users(runes) {
		t.Error("nine runes of two bytes may be")
	}
}

// P15.1: no two of one name, wherever they stand; names that are nearly the same may be, and secrets that are.
func TestUsersTwice(t *testing.T) {
	for i := range 8 {
		for j := range 8 {
			l := some(8)
			l[i].Name = l[j].Name
			if chap.Users(l) != (i == j) {
				t.Errorf("the name of %d at %d: %t", j, i, chap.Users(l))
			}
			l[i].Name = l[j].Name + "x"
			if !chap.Users(l) {
				t.Errorf("nearly the name of %d at %d: may not be", j, i)
			}
		}
	}
	for _, l := range [][]api.User{nil, {}, few(), {{Name: "a", Secret: "a"}, {Name: "A", Secret: "a"}, {Name: "a\x00", Secret: "a"}}} {
		if !chap.Users(l) {
			t.Errorf("%q may not be", l)
		}
	}
	for _, l := range [][]api.User{{{}}, {{Name: "a", Secret: "x"}, {Name: "a", Secret: "y"}}, {{Secret: "x"}}, {{Name: "a"}}} {
		if chap.Users(l) {
			t.Errorf("%q may be", l)
		}
	}
}

// P15.1: the secret of each; of others nothing, and no.
func TestSecret(t *testing.T) {
	for _, u := range append(some(8), few()...) {
		for _, l := range [][]api.User{some(8), few(), nil} {
			want := slices.Contains(l, u)
			got, is := chap.Secret(l, u.Name)
			if is != want || want && got != u.Secret || !want && got != "" {
				t.Errorf("%q of %q: %q, %t", u.Name, l, got, is)
			}
		}
	}
	for _, name := range []string{"", "an", "annb", "ANN", "ann ", "\x00", "one", strings.Repeat("x", 70000)} {
		if got, is := chap.Secret(few(), name); is || got != "" {
			t.Errorf("%q: %q", name, got)
		}
	}
}

// P15.1: digests that another program has told.
func TestDigestKnown(t *testing.T) {
	for i, x := range []struct {
		id     byte
		secret string
		value  [16]byte
		want   string
	}{
		{1, "one", value(1), "b77323ef9bfaff0ac76d3e191c0ca8fa"},
		{0, "", value(1), "1bdd36b0a024c90db383512607293692"},
		{255, strings.Repeat("a", 32), value(1), "9f488ff930c443c6e77123a87db759cc"},
		{0, "abc", [16]byte{}, "3fa8a0aa1c89dd8905d3fbed42b38276"},
	} {
		d := chap.Digest(x.id, x.secret, x.value)
		if hex.EncodeToString(d[:]) != x.want {
			t.Errorf("%d: %x, not %s", i, d, x.want)
		}
	}
}

// P15.1: digests of all Ids and of secrets of all lengths, longer than may be too, by another reckoning.
func TestDigest(t *testing.T) {
	r := rand.New(rand.NewSource(15))
	for id := range 256 {
		secret := make([]byte, id)
		r.Read(secret)
		v := drawnValue(r)
		for _, s := range []string{string(secret), string(secret[:id%33])} {
			if chap.Digest(byte(id), s, v) != digestOf(byte(id), s, v) {
				t.Fatalf("%d, %x, %x: another digest", id, s, v)
			}
		}
	}
}
