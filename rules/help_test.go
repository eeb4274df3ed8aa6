package rules_test

import (
	"bytes"
	"math"
	"math/rand"
	"slices"

	"portreeve/api"
)

// opt is an option by its type and the bytes that it holds.
func opt(t byte, data ...byte) api.Opt { return api.Opt{Type: t, Data: data} }

// of is a list of options.
func of(l ...api.Opt) []api.Opt { return l }

// lcp and ip are the rules that most tests are by.
func lcp() api.Rule { return api.Rule{Magic: 0x01020304, Other: 0x0A0B0C0D} }
func ip() api.Rule {
	return api.Rule{Ip: true, Magic: 0x01020304, Other: 0x0A0B0C0D, Addr: 0x0A000002, Ours: 0x0A0000FE}
}

// alike are lists that are the same, as the tests see it.
func alike(a, b []api.Opt) bool {
	return slices.EqualFunc(a, b, func(x, y api.Opt) bool { return x.Type == y.Type && string(x.Data) == string(y.Data) })
}

// someRules are rules of both protocols, with magic numbers and addresses at their edges.
func someRules() []api.Rule {
	numbers := []uint32{0, 1, 7, 0x01020304, math.MaxUint32}
	out := []api.Rule{lcp(), ip()}
	for _, a := range numbers {
		for _, b := range numbers {
			out = append(out, api.Rule{Magic: a, Other: b, Addr: b, Ours: a}, api.Rule{Ip: true, Addr: a, Ours: b, Magic: b, Other: a})
		}
	}
	return out
}

// someNaks are counts of refusals, about the limit and far from it.
func someNaks() []int { return []int{math.MinInt, -1, 0, 1, 2, 3, 4, math.MaxInt} }

// someOpts are options, right ones and wrong ones, of both protocols.
func someOpts() []api.Opt {
	out := []api.Opt{opt(0), opt(4), opt(6), opt(9, 1, 2, 3, 4), opt(255), opt(129, 10, 0, 0, 9), opt(3), opt(3, 194, 35, 5), opt(3, 192, 35)}
	for _, mru := range [][]byte{{}, {64}, {0, 0}, {0, 1}, {0, 63}, {0, 64}, {0, 65}, {1, 0}, {1, 63}, {5, 220}, {255, 255}, {0, 0, 64}, {0, 0, 0, 64}} {
		out = append(out, opt(1, mru...))
	}
	for _, n := range [][]byte{{}, {0}, {0, 0}, {0, 0, 0}, {0, 0, 0, 0}, {0, 0, 0, 1}, {0, 0, 0, 7}, {1, 2, 3, 4}, {4, 3, 2, 1}, {255, 255, 255, 255}, {10, 0, 0, 2}, {1, 2, 3, 4, 5}, {0, 0, 0, 0, 7}} {
		out = append(out, opt(2, n...), opt(3, n...), opt(5, n...))
	}
	for _, n := range [][]byte{{}, {0}, {1}, {0, 0}} {
		out = append(out, opt(7, n...), opt(8, n...))
	}
	return out
}

// lists are lists of options: none, each one, all pairs of some, and drawn ones.
func lists() [][]api.Opt {
	all := someOpts()
	out := [][]api.Opt{nil, {}, all}
	r := rand.New(rand.NewSource(13))
	for _, a := range all {
		out = append(out, of(a), of(a, a), of(a, all[r.Intn(len(all))]))
	}
	for range 600 {
		var l []api.Opt
		for range r.Intn(7) {
			l = append(l, all[r.Intn(len(all))])
		}
		out = append(out, l, onlyKnown(r.Intn(2) == 0, l))
	}
	return out
}

// onlyKnown are those of l that are known.
func onlyKnown(ipcp bool, l []api.Opt) []api.Opt {
	var out []api.Opt
	for _, o := range l {
		if known(ipcp, o) {
			out = append(out, o)
		}
	}
	return out
}

// known: is an option known, by the chapter's words?
func known(ipcp bool, o api.Opt) bool {
	shapes := []string{"1:2", "2:4", "5:4", "7:0", "8:0"}
	if ipcp {
		shapes = []string{"3:4"}
	}
	if o.Type > 9 || len(o.Data) > 9 {
		return false
	}
	return slices.Contains(shapes, string([]byte{'0' + o.Type, ':', '0' + byte(len(o.Data))}))
}

// number is four bytes as a number.
func number(b []byte) uint32 {
	return uint32(b[0])*(1<<24) + uint32(b[1])*(1<<16) + uint32(b[2])*(1<<8) + uint32(b[3])
}

// four is a number as four bytes.
func four(n uint32) []byte {
	return []byte{byte(n / (1 << 24)), byte(n / (1 << 16)), byte(n / (1 << 8)), byte(n)}
}

// better is a known option as it should be; the same, if it may be so.
func better(r api.Rule, o api.Opt) api.Opt {
	switch {
	case r.Ip:
		return opt(3, four(r.Addr)...)
	case o.Type == 1 && o.Data[0] == 0 && o.Data[1] <= 63:
		return opt(1, 0, 64)
	case o.Type == 5 && (string(o.Data) == "\x00\x00\x00\x00" || number(o.Data) == r.Magic):
		return opt(5, four(r.Other)...)
	}
	return o
}

// mayBe: may a known option be so?
func mayBe(r api.Rule, o api.Opt) bool {
	switch {
	case r.Ip:
		return number(o.Data) == r.Addr
	case o.Type == 1:
		return o.Data[0] != 0 || o.Data[1] > 63
	case o.Type == 5:
		return number(o.Data) != 0 && number(o.Data) != r.Magic
	}
	return true
}

// answer is what Answer should answer, by the chapter's words, one after another.
func answer(r api.Rule, l []api.Opt, naks int) (byte, []api.Opt) {
	var strange, bad, good []api.Opt
	for _, o := range l {
		switch {
		case !known(r.Ip, o):
			strange = append(strange, o)
		case !mayBe(r, o):
			bad, good = append(bad, o), append(good, better(r, o))
		}
	}
	switch {
	case strange != nil:
		return 4, strange
	case bad != nil && naks >= 3:
		return 4, bad
	case bad != nil:
		return 3, good
	case r.Ip && len(l) == 0 && naks < 3: // all that is known is an address
		return 3, of(opt(3, four(r.Addr)...))
	}
	return 2, l
}

// turn is what Turn should answer, by the chapter's words.
func turn(r api.Rule, ours []api.Opt, code byte, l []api.Opt) ([]api.Opt, bool) {
	typed := func(l []api.Opt, t byte) int {
		return slices.IndexFunc(l, func(o api.Opt) bool { return o.Type == t })
	}
	switch {
	case code != 3 && code != 4, !r.Ip && typed(l, 3) >= 0:
		return ours, false
	case code == 4:
		return slices.DeleteFunc(clone(ours), func(o api.Opt) bool { return typed(l, o.Type) >= 0 }), true
	case !r.Ip && typed(l, 5) >= 0 && typed(ours, 5) >= 0:
		out := clone(ours)
		out[typed(ours, 5)] = opt(5, four(r.Other)...)
		return out, true
	}
	return ours, true
}

// learn is what Learn should tell, by the chapter's words: from the last option to the first one, so that the first one stays.
func learn(l []api.Opt) api.Peer {
	p := api.Peer{Mru: 1500, Accm: 0xFFFFFFFF}
	for _, o := range slices.Backward(onlyKnown(false, l)) {
		switch o.Type {
		case 1:
			p.Mru = int(o.Data[0])*256 + int(o.Data[1])
		case 2:
			p.Accm = number(o.Data)
		case 5:
			p.Magic = number(o.Data)
		case 7:
			p.Pfc = true
		case 8:
			p.Acfc = true
		}
	}
	return p
}

// address is what Address should tell, by the chapter's words.
func address(l []api.Opt) (uint32, bool) {
	for _, o := range onlyKnown(true, l) {
		return number(o.Data), true
	}
	return 0, false
}

// clone is a list in memory of its own.
func clone(l []api.Opt) []api.Opt {
	var out []api.Opt
	for _, o := range l {
		out = append(out, api.Opt{Type: o.Type, Data: bytes.Clone(o.Data)})
	}
	return out
}
