package chap_test

import (
	"bytes"
	"fmt"
	"math"
	"slices"
	"strings"
	"testing"

	"portreeve/api"
	"portreeve/chap"
)

// answers are all that the calls tell of an authentication, users, a packet and a value, as texts.
func answers(a api.Auth, l []api.User, p api.Pkt, v [16]byte) []string {
	begun, first := chap.Begin(a, v)
	ticked, sent := chap.Tick(a, v)
	name, value, is := chap.Answer(p)
	ended, success := chap.End(a, name, value, true)
	failed, failure := chap.End(a, name, value, false)
	secret, known := chap.Secret(l, name)
	return []string{
		fmt.Sprint(chap.Right(a), chap.Users(l), chap.Proved(a, l)),
		fmt.Sprint(begun, show(first)),
		fmt.Sprint(ticked, show(sent...)),
		fmt.Sprintf("%q %x %t", name, value, is),
		fmt.Sprintf("%q %t %x", secret, known, chap.Digest(a.Id, secret, v)),
		fmt.Sprint(judged(a, l, p)),
		fmt.Sprint(ended, show(success), failed, show(failure)),
	}
}

// packets are answers to an authentication, good ones, bad ones, and none.
func packets(a api.Auth) []api.Pkt {
	return []api.Pkt{
		good(a, "ann", "one"), good(a, "bob", "one"), good(a, "eve", "one"), response(a.Id+1, "ann", value(4)), challenge(a.Id, value(1)),
		{Code: 2, Id: a.Id}, {Code: 2, Id: a.Id, Data: []byte{16}}, {Code: 3, Id: a.Id},
	}
}

// R3: neither the users nor a packet, nor the room behind them, are written into; what was told of them stays, when they are.
func TestLeavesItsArguments(t *testing.T) {
	for _, a := range rightOnes(255) {
		for i, p := range packets(a) {
			l := slices.Grow(few(), 3)
			p.Data = slices.Grow(bytes.Clone(p.Data), 40)
			was := fmt.Sprint(l[:cap(l)], p.Data[:cap(p.Data)])
			name, v, is := chap.Answer(p)
			told := fmt.Sprintf("%q %x %t", name, v, is)
			answers(a, l, p, value(1))
			if fmt.Sprint(l[:cap(l)], p.Data[:cap(p.Data)]) != was {
				t.Fatalf("%d: what was handed in was written into", i)
			}
			for n := range p.Data {
				p.Data[n] ^= 0x55
			}
			if fmt.Sprintf("%q %x %t", name, v, is) != told {
				t.Fatalf("%d: the name changed with the packet", i)
			}
		}
	}
}

// scrawl writes into what was sent, and into the room behind it.
func scrawl(sent []api.Pkt) {
	for i, p := range sent[:cap(sent)] {
		for n := range p.Data[:cap(p.Data)] {
			p.Data[:cap(p.Data)][n] ^= 0x55
		}
		sent[:cap(sent)][i] = api.Pkt{Code: 66}
	}
}

// R3: what is sent is new memory: to write into it changes nothing that is sent elsewhere, be it earlier or later.
func TestApart(t *testing.T) {
	due := api.Auth{State: api.Asked, Tries: 1, Left: 1, Id: 4}
	_, early := chap.Begin(due, value(1))
	_, earlier := chap.Tick(due, value(1))
	for range 3 {
		_, p := chap.Begin(due, value(1))
		_, sent := chap.Tick(due, value(1))
		_, success := chap.End(due, "ann", value(1), true)
		_, failure := chap.End(due, "ann", value(1), false)
		scrawl([]api.Pkt{p, success, failure})
		scrawl(sent)
		holdSent(t, "what was sent earlier", append(earlier, early), challenge(5, value(1)), challenge(5, value(1)))
	}
	_, p := chap.Begin(due, value(1))
	_, sent := chap.Tick(due, value(1))
	holdSent(t, "what is sent later", append(sent, p), challenge(5, value(1)), challenge(5, value(1)))
}

// R4: what is answered hangs on the arguments alone: asked again, in other order, with other room behind, it is the same.
func TestAgain(t *testing.T) {
	var first [][]string
	all := rightOnes(7)
	for _, a := range all {
		for _, p := range packets(a) {
			first = append(first, answers(a, few(), p, value(2)))
		}
	}
	at := len(first)
	for _, a := range slices.Backward(all) {
		for _, p := range slices.Backward(packets(a)) {
			at--
			p.Data = slices.Grow(p.Data, 30)
			if got := answers(a, slices.Grow(few(), 9), p, value(2)); !slices.Equal(got, first[at]) {
				t.Fatalf("asked again: %q, not %q", got, first[at])
			}
		}
	}
}

// R1: no call panics, and each ends, of authentications that aren't right, of users that may not be, and of packets of any length.
func TestWrong(t *testing.T) {
	many := make([]api.User, 200000)
	for i := range many {
		many[i] = api.User{Name: fmt.Sprint(i % 90000), Secret: "x"}
	}
	long := []api.User{{Name: strings.Repeat("n", 70000), Secret: strings.Repeat("s", 70000)}, {}, {}}
	numbers := []int{math.MinInt, -1, 0, 1, 4, 5, math.MaxInt}
	for _, state := range append(numbers, 2, 3) {
		for _, tries := range numbers {
			for _, left := range numbers {
				a := api.Auth{State: state, Tries: tries, Left: left, Who: long[0].Name}
				for _, p := range append(packets(a), api.Pkt{Code: 2, Data: make([]byte, 70000)}) {
					answers(a, nil, p, value(1))
					answers(a, []api.User{{}, {}}, p, value(1))
				}
			}
		}
	}
	for _, l := range [][]api.User{many, long} {
		if chap.Users(l) {
			t.Errorf("%d users may be", len(l))
		}
		a := api.Auth{State: api.Asked, Tries: 1, Left: 1, Id: 3, Value: value(8)}
		if got := judged(a, l, good(a, "89999", "x")); got != (verdict{"89999", len(l) > 3, true}) {
			t.Errorf("%d users: %v", len(l), got)
		}
		if b, _ := chap.End(a, l[0].Name, digestOf(3, l[0].Secret, value(8)), true); !chap.Proved(b, l) {
			t.Errorf("%d users: not proved", len(l))
		}
	}
}
