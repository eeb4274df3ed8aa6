package rules_test

import (
	"testing"

	"portreeve/api"
	"portreeve/rules"
)

// P13.1: of LCP we ask for CHAP with MD5, and for our magic number, whichever it is; the rule's other numbers count for nothing.
func TestAsksOfLcp(t *testing.T) {
	for _, x := range []struct {
		magic uint32
		want  []api.Opt
	}{
		{0, of(opt(3, 194, 35, 5), opt(5, 0, 0, 0, 0))},
		{1, of(opt(3, 194, 35, 5), opt(5, 0, 0, 0, 1))},
		{0x01020304, of(opt(3, 194, 35, 5), opt(5, 1, 2, 3, 4))},
		{0xFFFFFFFF, of(opt(3, 194, 35, 5), opt(5, 255, 255, 255, 255))},
	} {
		if got := rules.Ask(api.Rule{Magic: x.magic, Other: 9, Addr: 8, Ours: 7}); !alike(got, x.want) {
			t.Errorf("%d: %v", x.magic, got)
		}
	}
}

// P13.1: of IPCP we ask for our own address, whichever it is; the rule's other numbers count for nothing.
func TestAsksOfIpcp(t *testing.T) {
	for _, x := range []struct {
		ours uint32
		want []api.Opt
	}{
		{0, of(opt(3, 0, 0, 0, 0))}, {0x0A0000FE, of(opt(3, 10, 0, 0, 254))}, {0xFFFFFFFF, of(opt(3, 255, 255, 255, 255))},
	} {
		if got := rules.Ask(api.Rule{Ip: true, Magic: 7, Other: 9, Addr: 8, Ours: x.ours}); !alike(got, x.want) {
			t.Errorf("%d: %v", x.ours, got)
		}
	}
}
