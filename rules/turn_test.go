package rules_test

import (
	"testing"

	"portreeve/api"
	"portreeve/rules"
)

// turned holds what Turn answers against what it should.
func turned(t *testing.T, r api.Rule, ours []api.Opt, code byte, l, want []api.Opt, may bool) {
	t.Helper()
	if got, is := rules.Turn(r, ours, code, l); is != may || !alike(got, want) {
		t.Errorf("ip %v, ours %v, code %d, %v: %v %v, not %v %v", r.Ip, ours, code, l, got, is, want, may)
	}
}

// auth and magic are what we ask for of LCP, addr of IPCP.
func auth() api.Opt  { return opt(3, 194, 35, 5) }
func magic() api.Opt { return opt(5, 1, 2, 3, 4) }
func addr() api.Opt  { return opt(3, 10, 0, 0, 254) }

// P13.3: of LCP an answer that speaks of the authentication may not be, with whatever it holds and wherever it stands, even if we don't ask for it; we ask as before.
func TestAuthStays(t *testing.T) {
	for _, code := range []byte{api.ConfNak, api.ConfRej} {
		for _, o := range []api.Opt{opt(3), auth(), opt(3, 192, 35), opt(3, 1, 2, 3, 4)} {
			for _, ours := range [][]api.Opt{nil, of(auth(), magic()), of(magic())} {
				turned(t, lcp(), ours, code, of(o), ours, false)
				turned(t, lcp(), ours, code, of(opt(5, 9, 9, 9, 9), o, opt(1, 5, 220)), ours, false)
			}
		}
	}
}

// P13.3: what is rejected we don't ask for any more, all of its type, with whatever it holds; what we didn't ask for counts for nothing.
func TestRejected(t *testing.T) {
	both := of(auth(), magic())
	turned(t, lcp(), both, api.ConfRej, nil, both, true)
	turned(t, lcp(), both, api.ConfRej, of(magic()), of(auth()), true)
	turned(t, lcp(), both, api.ConfRej, of(opt(5)), of(auth()), true)
	turned(t, lcp(), both, api.ConfRej, of(opt(1, 0, 64), opt(5, 9), opt(5)), of(auth()), true)
	turned(t, lcp(), both, api.ConfRej, of(opt(1, 0, 64), opt(7), opt(0), opt(255)), both, true)
	turned(t, lcp(), nil, api.ConfRej, of(magic()), nil, true)
	turned(t, lcp(), of(opt(1, 1), opt(0), opt(2, 2), opt(1, 3), opt(255), opt(2)), api.ConfRej, of(opt(255), opt(1), opt(0)), of(opt(2, 2), opt(2)), true)
	turned(t, ip(), of(addr()), api.ConfRej, of(opt(3)), nil, true)
	turned(t, ip(), of(addr()), api.ConfRej, of(addr()), nil, true)
	turned(t, ip(), of(addr()), api.ConfRej, of(opt(2, 1)), of(addr()), true)
	turned(t, ip(), of(opt(5, 1), addr(), opt(5)), api.ConfRej, of(opt(5)), of(addr()), true)
}

// P13.3: of LCP a magic number that is refused gives way to the other one, in its place, whatever the peer asks for instead; else we ask as before.
func TestRefused(t *testing.T) {
	both, other := of(auth(), magic()), opt(5, 10, 11, 12, 13)
	for _, l := range [][]api.Opt{{opt(5)}, {magic()}, {opt(5, 0, 0, 0, 7)}, {opt(1, 5, 220), opt(5, 9), opt(5, 8)}} {
		turned(t, lcp(), both, api.ConfNak, l, of(auth(), other), true)
		turned(t, lcp(), of(magic(), auth(), opt(7)), api.ConfNak, l, of(other, auth(), opt(7)), true)
		turned(t, lcp(), of(opt(5)), api.ConfNak, l, of(other), true)
		turned(t, lcp(), of(opt(5, 1), opt(5, 2)), api.ConfNak, l, of(other, opt(5, 2)), true)
		turned(t, lcp(), of(auth()), api.ConfNak, l, of(auth()), true)
		turned(t, lcp(), nil, api.ConfNak, l, nil, true)
		turned(t, ip(), of(addr(), magic()), api.ConfNak, l, of(addr(), magic()), true)
	}
	for _, l := range [][]api.Opt{nil, {opt(1, 5, 220)}, {opt(7), opt(8), opt(2, 0, 0, 0, 0)}} {
		turned(t, lcp(), both, api.ConfNak, l, both, true)
	}
	for _, l := range [][]api.Opt{nil, {opt(3)}, {opt(3, 10, 0, 0, 9)}, {opt(3, 1), opt(3, 2), opt(2)}} {
		turned(t, ip(), of(addr()), api.ConfNak, l, of(addr()), true)
	}
}

// P13.3: with any other code it may not be, and we ask as before.
func TestOtherCodes(t *testing.T) {
	for code := range 256 {
		if code == api.ConfNak || code == api.ConfRej {
			continue
		}
		for _, l := range [][]api.Opt{nil, {magic()}, {auth()}, {opt(7)}} {
			turned(t, lcp(), of(auth(), magic()), byte(code), l, of(auth(), magic()), false)
			turned(t, ip(), of(addr()), byte(code), l, of(addr()), false)
		}
	}
}

// P13.3: all is as a second telling of the chapter's words has it, by many rules, of many lists, whatever we ask for.
func TestTurnsAll(t *testing.T) {
	all := lists()
	for n, r := range someRules() {
		for i, l := range all {
			ours := all[(i*7+n)%len(all)]
			if n%2 == 0 {
				ours = rules.Ask(r)
			}
			for code := range byte(6) {
				want, may := turn(r, ours, code, l)
				turned(t, r, ours, code, l, want, may)
			}
		}
	}
}
