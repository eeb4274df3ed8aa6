package chap_test

import (
	"math/rand"
	"testing"

	"portreeve/api"
	"portreeve/chap"
)

// P15.4: whatever is ended, of whatever Id, is Passed with who and proof, or Refused with nobody; what was sent, and how often, stays.
func TestEnd(t *testing.T) {
	for id := range 256 {
		for _, was := range rightOnes(byte(id)) {
			a, p := chap.End(was, "ann", value(9), true)
			holdAuth(t, "ended well", a, api.Auth{State: 2, Tries: was.Tries, Id: byte(id), Value: value(3), Who: "ann", Proof: value(9)})
			holdSent(t, "ended well", []api.Pkt{p}, api.Pkt{Code: 3, Id: byte(id)})
			b, q := chap.End(was, "ann", value(9), false)
			holdAuth(t, "ended ill", b, api.Auth{State: 3, Tries: was.Tries, Id: byte(id), Value: value(3)})
			holdSent(t, "ended ill", []api.Pkt{q}, api.Pkt{Code: 4, Id: byte(id)})
			if !chap.Right(a) || !chap.Right(b) {
				t.Fatalf("%+v, %+v: not right", a, b)
			}
		}
	}
}

// P15.4: just what is Passed is proved, with the digest of its own Id, value and user.
func TestProved(t *testing.T) {
	for state := -1; state < 6; state++ {
		a := api.Auth{State: state, Id: 7, Value: value(1), Who: "ann", Proof: digestOf(7, "one", value(1))}
		if chap.Proved(a, few()) != (state == 2) {
			t.Errorf("state %d: %t", state, state != 2)
		}
	}
	proved := api.Auth{State: 2, Id: 7, Value: value(1), Who: "ann", Proof: digestOf(7, "one", value(1))}
	for i, change := range []func(a *api.Auth){
		func(a *api.Auth) { a.Id++ },
		func(a *api.Auth) { a.Value[15]++ },
		func(a *api.Auth) { a.Value = [16]byte{} },
		func(a *api.Auth) { a.Who = "bob" },
		func(a *api.Auth) { a.Who = "eve" },
		func(a *api.Auth) { a.Who = "" },
		func(a *api.Auth) { a.Proof = [16]byte{} },
		func(a *api.Auth) { a.Who, a.Proof = "", digestOf(7, "", value(1)) },
		func(a *api.Auth) { a.Who, a.Proof = "eve", digestOf(7, "", value(1)) },
	} {
		a := proved
		change(&a)
		if chap.Proved(a, few()) {
			t.Errorf("%d: %+v is proved", i, a)
		}
	}
	for bit := range 128 {
		a := proved
		a.Proof[bit/8] ^= 1 << (bit % 8)
		if chap.Proved(a, few()) {
			t.Errorf("proved with bit %d turned", bit)
		}
	}
}

// P15.4: who isn't a user any more, or has another secret, isn't proved; whoever else is a user, and how often it was asked, makes no difference.
func TestProvedUsers(t *testing.T) {
	a := api.Auth{State: 2, Id: 7, Value: value(1), Who: "bob", Proof: digestOf(7, "two", value(1))}
	for i, x := range []struct {
		l    []api.User
		want bool
	}{
		{few(), true},
		{few()[1:2], true},
		{few()[2:], false},
		{nil, false},
		{[]api.User{{Name: "bob", Secret: "Two"}}, false},
		{[]api.User{{Name: "bo", Secret: "two"}}, false},
		{[]api.User{{Name: "ann", Secret: "two"}}, false},
	} {
		for tries := range 5 {
			a.Tries = tries
			if chap.Proved(a, x.l) != x.want {
				t.Errorf("%d: not %t", i, x.want)
			}
		}
	}
}

// P15.5: what is judged good, and ended so, is proved, whenever it was answered and whatever was drawn; what is ended ill, or with another's name, isn't.
func TestGoodIsProved(t *testing.T) {
	r := rand.New(rand.NewSource(155))
	l := few()
	for range 4000 {
		a, _ := chap.Begin(api.Auth{Id: byte(r.Intn(256)), Who: "bob"}, drawnValue(r))
		for range r.Intn(16) {
			a, _ = chap.Tick(a, drawnValue(r))
		}
		who, by := l[r.Intn(len(l))], l[r.Intn(len(l))]
		p := good(a, who.Name, by.Secret)
		name, is, counts := chap.Judge(a, l, p)
		_, proof, _ := chap.Answer(p)
		if !counts || name != who.Name || is != (who.Secret == by.Secret) {
			t.Fatalf("%q by %q of %+v: %q, %t, %t", who.Name, by.Name, a, name, is, counts)
		}
		b, _ := chap.End(a, name, proof, is)
		if chap.Proved(b, l) != is || !chap.Right(b) {
			t.Fatalf("good %t: %+v", is, b)
		}
		if forced, _ := chap.End(a, name, proof, true); chap.Proved(forced, l) != is {
			t.Fatalf("taken for good, but good is %t: %+v", is, forced)
		}
	}
}

// P15.5: a good answer is good just for the challenge that is outstanding: not for the next one, be that a further or a first one, nor for one that has its Id again, nor behind the end.
func TestGoodForOne(t *testing.T) {
	a, _ := chap.Begin(api.Auth{Id: 100}, value(1))
	p := good(a, "ann", "one")
	want := verdict{"ann", true, true}
	b := a
	for tick := range 16 {
		if got := judged(b, few(), p); (got == want) != (tick < 4) || tick >= 4 && got.counts {
			t.Errorf("behind %d ticks: %v", tick, got)
		}
		b, _ = chap.Tick(b, value(byte(tick)))
	}
	b = a
	for begun := 1; begun < 256; begun++ {
		b, _ = chap.Begin(b, value(byte(begun)))
		if got := judged(b, few(), p); got != (verdict{}) {
			t.Errorf("begun anew %d times: %v", begun, got)
		}
	}
	b, _ = chap.Begin(b, value(2))
	if got := judged(b, few(), p); b.Id != a.Id || got != (verdict{"ann", false, true}) {
		t.Errorf("the same Id again: %v", got)
	}
	for _, good := range []bool{true, false} {
		if b, _ = chap.End(a, "ann", digestOf(a.Id, "one", a.Value), good); judged(b, few(), p) != (verdict{}) {
			t.Errorf("ended %t: it counts", good)
		}
	}
}
