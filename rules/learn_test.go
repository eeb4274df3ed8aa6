package rules_test

import (
	"math"
	"testing"

	"portreeve/api"
	"portreeve/rules"
)

// P13.4: where the options tell nothing the peer takes 1500, wants all to be escaped, has no magic number, and no short frames.
func TestLearnsNothing(t *testing.T) {
	for _, l := range [][]api.Opt{nil, {}, {opt(0), opt(3, 194, 35, 5), opt(255)}, {opt(1), opt(1, 5), opt(1, 0, 5, 220)}, {opt(2), opt(2, 0, 0, 0), opt(2, 0, 0, 0, 0, 0)}, {opt(5, 7), opt(5, 1, 2, 3, 4, 5)}, {opt(7, 0), opt(8, 1)}} {
		if got := rules.Learn(l); got != (api.Peer{Mru: 1500, Accm: math.MaxUint32}) {
			t.Errorf("%v: %v", l, got)
		}
	}
}

// P13.4: each type tells its own, up to its edges, even what we would refuse.
func TestLearnsEach(t *testing.T) {
	for _, x := range []struct {
		o    api.Opt
		want api.Peer
	}{
		{opt(1, 0, 0), api.Peer{Mru: 0, Accm: math.MaxUint32}}, {opt(1, 0, 64), api.Peer{Mru: 64, Accm: math.MaxUint32}}, {opt(1, 1, 2), api.Peer{Mru: 258, Accm: math.MaxUint32}},
		{opt(1, 5, 220), api.Peer{Mru: 1500, Accm: math.MaxUint32}}, {opt(1, 255, 255), api.Peer{Mru: 65535, Accm: math.MaxUint32}},
		{opt(2, 0, 0, 0, 0), api.Peer{Mru: 1500}}, {opt(2, 1, 2, 3, 4), api.Peer{Mru: 1500, Accm: 0x01020304}}, {opt(2, 255, 255, 255, 255), api.Peer{Mru: 1500, Accm: math.MaxUint32}},
		{opt(5, 0, 0, 0, 0), api.Peer{Mru: 1500, Accm: math.MaxUint32}}, {opt(5, 9, 8, 7, 6), api.Peer{Mru: 1500, Accm: math.MaxUint32, Magic: 0x09080706}},
		{opt(7), api.Peer{Mru: 1500, Accm: math.MaxUint32, Pfc: true}}, {opt(8), api.Peer{Mru: 1500, Accm: math.MaxUint32, Acfc: true}},
	} {
		if got := rules.Learn(of(x.o)); got != x.want {
			t.Errorf("%v: %v, not %v", x.o, got, x.want)
		}
		if got := rules.Learn(of(opt(3), x.o, opt(9, 9))); got != x.want {
			t.Errorf("%v among others: %v, not %v", x.o, got, x.want)
		}
	}
}

// P13.4: of each type the first one that is known counts, not one ahead of it that isn't, nor one behind.
func TestLearnsTheFirst(t *testing.T) {
	l := of(opt(8, 1), opt(5, 1), opt(2, 0, 10, 0, 0), opt(1, 9), opt(1, 1, 0), opt(7), opt(5, 0, 0, 0, 77), opt(1, 2, 0), opt(5, 0, 0, 0, 78), opt(2, 0, 0, 0, 0), opt(7, 1))
	if got := rules.Learn(l); got != (api.Peer{Mru: 256, Accm: 0x000A0000, Magic: 77, Pfc: true}) {
		t.Error(got)
	}
}

// P13.4: the address is that of the first option of its type with four bytes; of others there is none.
func TestAddress(t *testing.T) {
	for i, x := range []struct {
		l    []api.Opt
		want uint32
		is   bool
	}{
		{nil, 0, false}, {of(), 0, false}, {of(opt(3)), 0, false}, {of(opt(3, 10, 0, 0)), 0, false}, {of(opt(3, 10, 0, 0, 2, 0)), 0, false}, {of(opt(2, 10, 0, 0, 2), opt(129, 10, 0, 0, 2)), 0, false},
		{of(opt(3, 10, 0, 0, 2)), 0x0A000002, true}, {of(opt(3, 0, 0, 0, 0)), 0, true}, {of(opt(3, 255, 255, 255, 255)), math.MaxUint32, true},
		{of(opt(3, 194, 35, 5), opt(3, 1, 2, 3, 4), opt(3, 5, 6, 7, 8)), 0x01020304, true}, {of(opt(2, 1, 1, 1, 1), opt(3, 0, 0, 0, 0), opt(3, 5, 6, 7, 8)), 0, true},
	} {
		if got, is := rules.Address(x.l); got != x.want || is != x.is {
			t.Errorf("%d: %d %v", i, got, is)
		}
	}
}

// P13.4: of all lists is told what a second telling of the chapter's words has.
func TestLearnsAll(t *testing.T) {
	for _, l := range lists() {
		if got, want := rules.Learn(l), learn(l); got != want {
			t.Errorf("%v: %v, not %v", l, got, want)
		}
		got, is := rules.Address(l)
		if want, should := address(l); got != want || is != should {
			t.Errorf("%v: %d %v, not %d %v", l, got, is, want, should)
		}
	}
}
