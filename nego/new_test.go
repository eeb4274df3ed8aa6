package nego_test

import (
	"math"
	"testing"

	"portreeve/api"
	"portreeve/nego"
)

// P14.1: New is in the state Initial, keeps the rule, asks for what the rule says, and has no more.
func TestNew(t *testing.T) {
	for _, x := range []struct {
		r    api.Rule
		ours string
	}{
		{lcpRule(), "3=c22305,5=00000005"},
		{ipRule(), "3=0a0000fe"},
		{api.Rule{}, "3=c22305,5=00000000"},
		{api.Rule{Ip: true}, "3=00000000"},
		{api.Rule{Magic: math.MaxUint32, Other: 7, Addr: 8, Ours: 9}, "3=c22305,5=ffffffff"},
		{api.Rule{Ip: true, Magic: 1, Other: 7, Addr: 8, Ours: math.MaxUint32}, "3=ffffffff"},
	} {
		n := nego.New(x.r)
		if n.A != (api.Auto{}) || n.R != x.r || hexOf(n.Ours) != x.ours || n.Naks != 0 || len(n.Peer) != 0 || !nego.Right(n) {
			t.Errorf("New of %v: %v, not %s", x.r, n, x.ours)
		}
	}
}

// P14.1: right is a protocol whose automaton is, that hasn't refused more often than it may, and that asks for what can be told as bytes, each magic number of four.
func TestRight(t *testing.T) {
	for _, n := range protocols() {
		if !nego.Right(n) {
			t.Fatalf("%s isn't right", outcome{n: n})
		}
	}
	long := func(l ...int) (out []api.Opt) {
		for _, n := range l {
			out = append(out, api.Opt{Type: 9, Data: make([]byte, n)})
		}
		return out
	}
	magic := func(n int) api.Opt { return api.Opt{Type: 5, Data: make([]byte, n)} }
	for i, x := range []struct {
		spoil func(n *api.Nego)
		want  bool
	}{
		{func(n *api.Nego) {}, true},
		{func(n *api.Nego) { n.Naks = 0 }, true},
		{func(n *api.Nego) { n.Naks = 3 }, true},
		{func(n *api.Nego) { n.Naks = 4 }, false},
		{func(n *api.Nego) { n.Naks = -1 }, false},
		{func(n *api.Nego) { n.Naks = math.MaxInt }, false},
		{func(n *api.Nego) { n.Naks = math.MinInt }, false},
		{func(n *api.Nego) { n.A.Left = 0 }, false},
		{func(n *api.Nego) { n.A.Left = 4 }, false},
		{func(n *api.Nego) { n.A.Count = 6 }, false},
		{func(n *api.Nego) { n.A.Count = -1 }, false},
		{func(n *api.Nego) { n.A.State = 10 }, false},
		{func(n *api.Nego) { n.A.State = api.Opened }, false},
		{func(n *api.Nego) { n.A = api.Auto{State: api.Opened} }, true},
		{func(n *api.Nego) { n.Ours = nil }, true},
		{func(n *api.Nego) { n.Ours = long(253) }, true},
		{func(n *api.Nego) { n.Ours = long(254) }, false},
		{func(n *api.Nego) { n.Ours = long(253, 253, 253, 253, 253, 219) }, true},
		{func(n *api.Nego) { n.Ours = long(253, 253, 253, 253, 253, 220) }, false},
		{func(n *api.Nego) { n.Ours = []api.Opt{magic(4), magic(4)} }, true},
		{func(n *api.Nego) { n.Ours = []api.Opt{magic(0)} }, false},
		{func(n *api.Nego) { n.Ours = []api.Opt{magic(3)} }, false},
		{func(n *api.Nego) { n.Ours = []api.Opt{magic(5)} }, false},
		{func(n *api.Nego) { n.Ours = []api.Opt{magic(4), magic(3)} }, false},
		{func(n *api.Nego) { n.R, n.Ours = ipRule(), []api.Opt{magic(3)} }, false},
		{func(n *api.Nego) { n.Peer = []api.Opt{magic(3)} }, true},
		{func(n *api.Nego) { n.Peer = nil }, true},
	} {
		n := in(api.ReqSent, lcpRule())
		if x.spoil(&n); nego.Right(n) != x.want {
			t.Errorf("%d: Right of %s = %t", i, outcome{n: n}, !x.want)
		}
	}
}

// P14.1: Magic is the number of the first OMagic that we ask for; 0, if there is none, and of IPCP, whatever it asks for.
func TestMagic(t *testing.T) {
	first, second := api.Opt{Type: 5, Data: []byte{1, 2, 3, 4}}, api.Opt{Type: 5, Data: []byte{255, 254, 253, 252}}
	for _, x := range []struct {
		ours []api.Opt
		want uint32
	}{
		{nil, 0},
		{[]api.Opt{{Type: 7}}, 0},
		{[]api.Opt{first}, 0x01020304},
		{[]api.Opt{second, first}, 0xFFFEFDFC},
		{[]api.Opt{{Type: 2, Data: []byte{9, 9, 9, 9}}, first, second}, 0x01020304},
	} {
		n := api.Nego{R: lcpRule(), Ours: x.ours}
		if got := nego.Magic(n); got != x.want {
			t.Errorf("Magic of %s = %x, not %x", hexOf(x.ours), got, x.want)
		}
		if n.R.Ip = true; nego.Magic(n) != 0 {
			t.Errorf("IPCP, %s: %x", hexOf(x.ours), nego.Magic(n))
		}
	}
	if nego.Magic(nego.New(lcpRule())) != 5 || nego.Magic(nego.New(ipRule())) != 0 {
		t.Error("the magic number of a new protocol isn't its rule's")
	}
}

// P14.1: the same are protocols of which all is: what differs in one thing isn't.
func TestSame(t *testing.T) {
	one := func() api.Nego { return in(api.ReqSent, lcpRule()) }
	for i, spoil := range []func(n *api.Nego){
		func(n *api.Nego) { n.A.State = api.AckSent },
		func(n *api.Nego) { n.A.Count = 4 },
		func(n *api.Nego) { n.A.Left = 1 },
		func(n *api.Nego) { n.A.Id = 41 },
		func(n *api.Nego) { n.R.Ip = true },
		func(n *api.Nego) { n.R.Magic++ },
		func(n *api.Nego) { n.R.Other++ },
		func(n *api.Nego) { n.R.Addr++ },
		func(n *api.Nego) { n.R.Ours++ },
		func(n *api.Nego) { n.Naks = 3 },
		func(n *api.Nego) { n.Ours = n.Ours[:1] },
		func(n *api.Nego) { n.Ours[0], n.Ours[1] = n.Ours[1], n.Ours[0] },
		func(n *api.Nego) { n.Ours[1].Data[3]++ },
		func(n *api.Nego) { n.Ours[1].Type++ },
		func(n *api.Nego) { n.Peer = nil },
		func(n *api.Nego) { n.Peer = append(n.Peer, n.Peer[0]) },
		func(n *api.Nego) { n.Peer[0].Data = []byte{0} },
		func(n *api.Nego) { n.Peer[0].Type = 7 },
		func(n *api.Nego) { n.Ours, n.Peer = n.Peer, n.Ours },
	} {
		n := one()
		if spoil(&n); nego.Same(n, one()) || nego.Same(one(), n) || !nego.Same(n, n) {
			t.Errorf("%d: Same of %s", i, outcome{n: n})
		}
	}
	if !nego.Same(one(), one()) {
		t.Error("two of the same kind aren't the same")
	}
	if !nego.Same(api.Nego{Ours: []api.Opt{{Data: []byte{}}}, Peer: []api.Opt{}}, api.Nego{Ours: []api.Opt{{}}}) {
		t.Error("lists without elements aren't the same")
	}
}
