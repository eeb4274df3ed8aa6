package rules_test

import (
	"fmt"
	"math"
	"slices"
	"testing"

	"portreeve/api"
	"portreeve/rules"
)

// handed are all lists that the package hands out of two lists, by both rules.
func handed(ours, l []api.Opt) map[string][]api.Opt {
	out := map[string][]api.Opt{}
	for name, r := range map[string]api.Rule{"LCP": lcp(), "IPCP": ip()} {
		out["Ask of "+name] = rules.Ask(r)
		for _, naks := range []int{0, 3} {
			_, out["Answer of "+name+string(rune('0'+naks))] = rules.Answer(r, l, naks)
		}
		for code := range byte(6) {
			out["Turn of "+name+string(rune('0'+code))], _ = rules.Turn(r, ours, code, l)
		}
	}
	return out
}

// ourLists are what we may ask for.
func ourLists() [][]api.Opt {
	return [][]api.Opt{nil, of(auth(), magic()), of(addr()), of(auth()), of(magic(), opt(7), opt(1, 5, 220))}
}

// spoil writes into all memory that options have, and that their list has, their spare room too.
func spoil(l []api.Opt) {
	for _, o := range l {
		for i := range o.Data[:cap(o.Data)] {
			o.Data[:cap(o.Data)][i] ^= 0x55
		}
	}
	for i := range l[:cap(l)] {
		l[:cap(l)][i] = opt(99, 9, 9, 9)
	}
}

// roomy is a list that is the same, in memory of its own, with spare room behind it and behind what its options hold; look tells all that stands in that memory.
func roomy(l []api.Opt) (mine []api.Opt, look func() string) {
	mine = slices.Grow(clone(l), 3)
	for i, o := range mine {
		mine[i].Data = slices.Grow(o.Data, 4)
	}
	return mine, func() string {
		told := fmt.Sprint(mine[:cap(mine)])
		for _, o := range mine {
			told += fmt.Sprint(o.Data[:cap(o.Data)])
		}
		return told
	}
}

// R3: nothing is written into what is handed in, nor into the spare room behind it, and nothing that is handed out shares memory with it.
func TestLeavesItsArguments(t *testing.T) {
	for i, l := range lists() {
		for _, ours := range ourLists() {
			mine, look := roomy(l)
			asked, lookAsked := roomy(ours)
			was := look() + lookAsked()
			got := handed(asked, mine)
			rules.Learn(mine)
			rules.Address(mine)
			if look()+lookAsked() != was {
				t.Fatalf("%d: what was handed in was written into", i)
			}
			for _, x := range got {
				spoil(x)
			}
			if look()+lookAsked() != was {
				t.Fatalf("%d: what was handed out shares memory with what was handed in", i)
			}
		}
	}
}

// R3: what is handed out stays as it is when what was handed in, or what else was handed out, is written into.
func TestKeepsNothing(t *testing.T) {
	for i, l := range lists() {
		for _, ours := range ourLists() {
			mine, _ := roomy(l)
			asked, _ := roomy(ours)
			got, want := handed(asked, mine), handed(ours, l)
			spoil(mine)
			spoil(asked)
			for name, x := range got {
				if !alike(x, want[name]) {
					t.Fatalf("%d: %s changed with what was handed in, or handed out", i, name)
				}
				spoil(x)
			}
		}
	}
}

// R3: options that come out share no memory with one another.
func TestApart(t *testing.T) {
	for _, l := range lists() {
		for name, got := range handed(of(auth(), magic()), l) {
			want := clone(got)
			for n := range got {
				spoil(got[n : n+1 : n+1])
				if !alike(got[n+1:], want[n+1:]) {
					t.Fatalf("%s: option %d shares memory with those behind it", name, n)
				}
			}
		}
	}
}

// R4: what is answered hangs on the arguments alone: asked again, in other order, with other room behind, it is the same.
func TestAgain(t *testing.T) {
	all := lists()
	ours := of(auth(), magic())
	var first []map[string][]api.Opt
	for _, l := range all {
		first = append(first, handed(ours, l))
	}
	for i := len(all) - 1; i >= 0; i-- {
		l, _ := roomy(all[i])
		asked, _ := roomy(ours)
		for name, x := range handed(asked, l) {
			if !alike(x, first[i][name]) {
				t.Fatalf("%d: %s answers otherwise when asked again", i, name)
			}
		}
		if rules.Learn(all[i]) != rules.Learn(l) {
			t.Fatalf("%d: Learn answers otherwise when asked again", i)
		}
	}
}

// R1: no call panics at options that are longer than they may be, nor at many, and all end soon.
func TestNoPanic(t *testing.T) {
	many := make([]api.Opt, 100000)
	for i := range many {
		many[i] = opt(byte(i))
	}
	long := of(opt(1, make([]byte, 70000)...), opt(3, make([]byte, 254)...), opt(5, make([]byte, 256+4)...), opt(7, make([]byte, 256)...))
	for _, l := range [][]api.Opt{many, long} {
		for _, r := range []api.Rule{lcp(), ip(), {}, {Ip: true}} {
			if code, _ := rules.Answer(r, l, math.MinInt); code != api.ConfRej {
				t.Errorf("%d options: %d", len(l), code)
			}
			for code := range byte(6) {
				if got, _ := rules.Turn(r, many, code, many[:256]); len(got) != 0 && len(got) != len(many) {
					t.Errorf("%d of many are left", len(got))
				}
			}
			if code, got := rules.Answer(r, long, math.MaxInt); code != api.ConfRej || !alike(got, long) {
				t.Errorf("long ones: %d", code)
			}
		}
	}
	if rules.Learn(long) != rules.Learn(nil) {
		t.Error("long ones tell something")
	}
	if _, is := rules.Address(long); is {
		t.Error("a long one tells an address")
	}
}
