package rules

import (
	"portreeve/api"
	"portreeve/opts"
)

// side is what the peer's options are held against, of one of the two protocols.
type side struct {
	lengths map[byte]int                  // how many bytes those hold that are known
	should  func(api.Opt) (api.Opt, bool) // what a known one should be, if it may not be so
	lacking func(l []api.Opt) []api.Opt   // what should be in l, and isn't
}

// sideOf is what the options are held against by a rule.
func sideOf(r api.Rule) side {
	if r.Ip {
		return ipcp(r)
	}
	return lcp(r)
}

// lcp is what those of LCP are held against.
func lcp(r api.Rule) side {
	return side{
		lengths: map[byte]int{api.OMru: 2, api.OAccm: 4, api.OMagic: 4, api.OPfc: 0, api.OAcfc: 0},
		should: func(o api.Opt) (api.Opt, bool) {
			n := opts.Number(o.Data)
			switch {
			case o.Type == api.OMru && n < api.MinMru:
				return api.Opt{Type: api.OMru, Data: []byte{api.MinMru >> 8, api.MinMru & 0xFF}}, true
			case o.Type == api.OMagic && (n == 0 || n == r.Magic):
				return four(api.OMagic, r.Other), true
			}
			return api.Opt{}, false
		},
		lacking: func([]api.Opt) []api.Opt { return nil },
	}
}

// ipcp is what those of IPCP are held against.
func ipcp(r api.Rule) side {
	addr := func() api.Opt { return four(api.OAddr, r.Addr) }
	return side{
		lengths: map[byte]int{api.OAddr: 4},
		should: func(o api.Opt) (api.Opt, bool) {
			if opts.Number(o.Data) == r.Addr {
				return api.Opt{}, false
			}
			return addr(), true
		},
		lacking: func(l []api.Opt) []api.Opt {
			if has(l, api.OAddr) {
				return nil
			}
			return []api.Opt{addr()}
		},
	}
}

// known: is an option known?
func (s side) known(o api.Opt) bool {
	n, is := s.lengths[o.Type]
	return is && n == len(o.Data)
}

// strange: isn't it?
func (s side) strange(o api.Opt) bool { return !s.known(o) }

// bad: may an option not be so?
func (s side) bad(o api.Opt) bool {
	_, bad := s.should(o)
	return bad
}

// bettered are those of l that may not be so, each as it should be.
func (s side) bettered(l []api.Opt) []api.Opt {
	var out []api.Opt
	for _, o := range l {
		if better, bad := s.should(o); bad {
			out = append(out, better)
		}
	}
	return out
}
