package rules_test

import (
	"slices"
	"testing"

	"portreeve/api"
	"portreeve/rules"
)

// answered holds an answer against what is asked for.
func answered(t *testing.T, r api.Rule, l []api.Opt, naks int, code byte, want []api.Opt) {
	t.Helper()
	if got, m := rules.Answer(r, l, naks); got != code || !alike(m, want) {
		t.Errorf("ip %v, %v, %d refusals: %d %v, not %d %v", r.Ip, l, naks, got, m, code, want)
	}
}

// P13.2: options of LCP that are known and may be so are all taken, however often we have refused.
func TestTakesOfLcp(t *testing.T) {
	for _, l := range [][]api.Opt{
		nil, {}, {opt(7)}, {opt(8)}, {opt(1, 0, 64)}, {opt(1, 5, 220)}, {opt(1, 255, 255)}, {opt(1, 1, 0)}, {opt(2, 0, 0, 0, 0)}, {opt(2, 1, 2, 3, 4)},
		{opt(5, 0, 0, 0, 1)}, {opt(5, 10, 11, 12, 13)}, {opt(5, 4, 3, 2, 1)}, {opt(8), opt(7), opt(5, 9, 9, 9, 9), opt(2, 0, 10, 0, 0), opt(1, 0, 64), opt(7), opt(1, 0, 65)},
	} {
		for _, naks := range someNaks() {
			answered(t, lcp(), l, naks, api.ConfAck, l)
		}
	}
}

// P13.2: what isn't known of LCP is rejected, all of it, as it is, in order, and nothing else, however often we have refused.
func TestRejectsOfLcp(t *testing.T) {
	for _, strange := range []api.Opt{
		opt(0), opt(3), opt(3, 194, 35, 5), opt(3, 1, 2, 3, 4), opt(4), opt(6), opt(9), opt(255), opt(1), opt(1, 64), opt(1, 0, 0, 64), opt(1, 0, 0, 5, 220),
		opt(2), opt(2, 0, 0), opt(2, 1, 2, 3), opt(2, 1, 2, 3, 4, 5), opt(5), opt(5, 1, 2, 3), opt(5, 0, 0, 0, 0, 1), opt(7, 0), opt(7, 1, 2), opt(8, 1), opt(8, 0, 0, 0, 0),
	} {
		for _, naks := range someNaks() {
			answered(t, lcp(), of(strange), naks, api.ConfRej, of(strange))
			answered(t, lcp(), of(opt(1, 0, 63), opt(44, 1), opt(7), strange, opt(5, 0, 0, 0, 0), strange), naks, api.ConfRej, of(opt(44, 1), strange, strange))
		}
	}
}

// P13.2: an option of LCP that may not be so is answered as it should be, as long as we have refused less than three times; and then rejected as it is.
func TestBettersOfLcp(t *testing.T) {
	for _, x := range []struct{ is, should api.Opt }{
		{opt(1, 0, 0), opt(1, 0, 64)}, {opt(1, 0, 1), opt(1, 0, 64)}, {opt(1, 0, 63), opt(1, 0, 64)},
		{opt(5, 0, 0, 0, 0), opt(5, 10, 11, 12, 13)}, {opt(5, 1, 2, 3, 4), opt(5, 10, 11, 12, 13)},
	} {
		for _, naks := range someNaks() {
			if naks < 3 {
				answered(t, lcp(), of(x.is), naks, api.ConfNak, of(x.should))
				answered(t, lcp(), of(opt(7), x.is, opt(2, 0, 0, 0, 0), x.is, opt(1, 0, 64)), naks, api.ConfNak, of(x.should, x.should))
			} else {
				answered(t, lcp(), of(x.is), naks, api.ConfRej, of(x.is))
				answered(t, lcp(), of(opt(7), x.is, opt(2, 0, 0, 0, 0), x.is, opt(1, 0, 64)), naks, api.ConfRej, of(x.is, x.is))
			}
		}
	}
	both := of(opt(5, 0, 0, 0, 0), opt(8), opt(1, 0, 9), opt(5, 1, 2, 3, 4))
	answered(t, lcp(), both, 2, api.ConfNak, of(opt(5, 10, 11, 12, 13), opt(1, 0, 64), opt(5, 10, 11, 12, 13)))
	answered(t, lcp(), both, 3, api.ConfRej, of(opt(5, 0, 0, 0, 0), opt(1, 0, 9), opt(5, 1, 2, 3, 4)))
}

// P13.2: a magic number that is ours may not be so, even if it is the other one; then it should be what it is.
func TestSameMagic(t *testing.T) {
	r := api.Rule{Magic: 7, Other: 7}
	answered(t, r, of(opt(5, 0, 0, 0, 7)), 0, api.ConfNak, of(opt(5, 0, 0, 0, 7)))
	answered(t, r, of(opt(5, 0, 0, 0, 7)), 3, api.ConfRej, of(opt(5, 0, 0, 0, 7)))
	answered(t, api.Rule{}, of(opt(5, 0, 0, 0, 0)), 0, api.ConfNak, of(opt(5, 0, 0, 0, 0)))
	answered(t, api.Rule{}, of(opt(5, 0, 0, 0, 1)), 0, api.ConfAck, of(opt(5, 0, 0, 0, 1)))
}

// P13.2: of IPCP the peer's address is taken, another one isn't, and none is answered with one, as long as we have refused less than three times; and then another one is rejected, and none is taken.
func TestAnswersOfIpcp(t *testing.T) {
	addr := opt(3, 10, 0, 0, 2)
	for _, naks := range someNaks() {
		answered(t, ip(), of(addr), naks, api.ConfAck, of(addr))
		answered(t, ip(), of(addr, addr), naks, api.ConfAck, of(addr, addr))
		for _, other := range []api.Opt{opt(3, 0, 0, 0, 0), opt(3, 10, 0, 0, 3), opt(3, 2, 0, 0, 10), opt(3, 10, 0, 0, 254), opt(3, 1, 2, 3, 4)} {
			if naks < 3 {
				answered(t, ip(), of(other), naks, api.ConfNak, of(addr))
				answered(t, ip(), of(other, addr, other), naks, api.ConfNak, of(addr, addr))
			} else {
				answered(t, ip(), of(other), naks, api.ConfRej, of(other))
				answered(t, ip(), of(other, addr, other), naks, api.ConfRej, of(other, other))
			}
		}
		for _, none := range [][]api.Opt{nil, {}} {
			if naks < 3 {
				answered(t, ip(), none, naks, api.ConfNak, of(addr))
			} else {
				answered(t, ip(), none, naks, api.ConfAck, nil)
			}
		}
	}
}

// P13.2: what isn't known of IPCP is rejected alone, ahead of an address that isn't there or isn't the peer's; LCP's options aren't known there.
func TestRejectsOfIpcp(t *testing.T) {
	for _, strange := range []api.Opt{opt(1, 5, 220), opt(2, 0, 45, 15, 0), opt(5, 4, 3, 2, 1), opt(7), opt(8), opt(3), opt(3, 10, 0, 0), opt(3, 10, 0, 0, 2, 0), opt(129, 10, 0, 0, 2)} {
		for _, naks := range someNaks() {
			answered(t, ip(), of(strange), naks, api.ConfRej, of(strange))
			answered(t, ip(), of(strange, opt(3, 0, 0, 0, 0), opt(0), opt(3, 10, 0, 0, 2)), naks, api.ConfRej, of(strange, opt(0)))
		}
	}
}

// P13.2: an address of noughts is the peer's, where the rule says so.
func TestNoughtAddress(t *testing.T) {
	r := api.Rule{Ip: true, Ours: 5}
	answered(t, r, of(opt(3, 0, 0, 0, 0)), 0, api.ConfAck, of(opt(3, 0, 0, 0, 0)))
	answered(t, r, of(opt(3, 0, 0, 0, 5)), 0, api.ConfNak, of(opt(3, 0, 0, 0, 0)))
	answered(t, r, nil, 0, api.ConfNak, of(opt(3, 0, 0, 0, 0)))
}

// P13.2: all answers are as a second telling of the chapter's words has them, by many rules, of many lists.
func TestAnswersAll(t *testing.T) {
	for _, r := range someRules() {
		for _, l := range lists() {
			for _, naks := range someNaks() {
				code, want := answer(r, l, naks)
				answered(t, r, l, naks, code, want)
			}
		}
	}
}

// P13.5: what we answer with ConfAck is all that was asked for, and has nothing that isn't known, nor that may not be so, unless we have refused often enough; and even then nothing of these.
func TestTakesNothingWrong(t *testing.T) {
	for _, r := range someRules() {
		for _, l := range lists() {
			for _, naks := range someNaks() {
				code, m := rules.Answer(r, l, naks)
				if code != api.ConfAck {
					continue
				}
				if !alike(m, l) {
					t.Fatalf("%v of %v", m, l)
				}
				for _, o := range m {
					if !known(r.Ip, o) || !mayBe(r, o) {
						t.Fatalf("%v: took %v", r, o)
					}
				}
				if r.Ip && naks < 3 && len(m) == 0 {
					t.Fatal("took no address")
				}
			}
		}
	}
}

// P13.5: what we answer with ConfNak, asked for again with it, is answered with ConfAck: alone, and with it in the places of what was refused.
func TestNakIsTaken(t *testing.T) {
	for _, r := range someRules() {
		if r.Magic == r.Other || r.Other == 0 {
			continue
		}
		for _, l := range lists() {
			code, m := rules.Answer(r, l, 0)
			if code != api.ConfNak {
				continue
			}
			again := retold(r, l, m)
			for _, naks := range someNaks() {
				answered(t, r, m, naks, api.ConfAck, m)
				answered(t, r, again, naks, api.ConfAck, again)
			}
		}
	}
}

// retold is l with m in the places of what may not be so in it, and what is left of m behind.
func retold(r api.Rule, l, m []api.Opt) []api.Opt {
	out := slices.Clone(l)
	for i, o := range l {
		if !mayBe(r, o) {
			out[i], m = m[0], m[1:]
		}
	}
	return append(out, m...)
}
