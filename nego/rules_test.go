package nego_test

import (
	"bytes"
	"fmt"
	"math"
	"slices"
	"testing"

	"portreeve/api"
	"portreeve/nego"
)

// roomyOpts are the same options in memory of their own, with room behind each list of bytes and behind all.
func roomyOpts(l []api.Opt) []api.Opt {
	out := make([]api.Opt, 0, len(l)+2)
	for _, o := range l {
		out = append(out, api.Opt{Type: o.Type, Data: slices.Grow(bytes.Clone(o.Data), 5)})
	}
	return out
}

// roomy is the same protocol in memory of its own, with room behind all that it has.
func roomy(n api.Nego) api.Nego {
	n.Ours, n.Peer = roomyOpts(n.Ours), roomyOpts(n.Peer)
	return n
}

// roomyPkt is the same packet in memory of its own, with room behind.
func roomyPkt(p api.Pkt) api.Pkt {
	p.Data = slices.Grow(bytes.Clone(p.Data), 5)
	return p
}

// seen tells all that stands in the memory that a protocol and a packet have, the room behind too.
func seen(n api.Nego, p api.Pkt) string {
	out := fmt.Sprint(p.Data[:cap(p.Data)])
	for _, l := range [][]api.Opt{n.Ours, n.Peer} {
		for _, o := range l[:cap(l)] {
			out += fmt.Sprint(o.Type, o.Data[:cap(o.Data)])
		}
	}
	return out
}

// scrawlBytes writes into bytes, and into the room behind them.
func scrawlBytes(b []byte) {
	for i := range b[:cap(b)] {
		b[:cap(b)][i] += 77
	}
}

// scrawlOpts writes into options, what they hold, and the room behind.
func scrawlOpts(l []api.Opt) {
	for i, o := range l[:cap(l)] {
		scrawlBytes(o.Data)
		l[:cap(l)][i] = api.Opt{Type: 66, Data: []byte{6, 6}}
	}
}

// scrawl writes into all that an outcome has.
func scrawl(o outcome) {
	scrawlOpts(o.n.Ours)
	scrawlOpts(o.n.Peer)
	for i, p := range o.sent[:cap(o.sent)] {
		scrawlBytes(p.Data)
		o.sent[:cap(o.sent)][i] = pkt(66, 6, 6)
	}
	for i := range o.told[:cap(o.told)] {
		o.told[:cap(o.told)][i] = 66
	}
}

// fewPackets are some packets of each code that do something.
func fewPackets(n api.Nego) []api.Pkt {
	return []api.Pkt{
		pkt(1, 9, 7, 2), pkt(1, 9, 1, 4, 0, 1), pkt(1, 9, 9, 2, 3, 6, 1, 2, 3, 4), pkt(1, 9, 3, 6, 10, 0, 0, 2), pkt(1, 9, 7), pkt(2, n.A.Id, laid(n.Ours)...), pkt(3, n.A.Id, 5, 6, 0, 0, 0, 1), pkt(4, n.A.Id, 5, 2),
		pkt(4, n.A.Id, 3, 2), pkt(5, 3, 8), pkt(6, 3, 8), pkt(7, 3, 1), pkt(7, 3, 9), pkt(8, 3, 0xC0, 0x21), pkt(9, 3, 1, 2, 3, 4, 5, 6), pkt(10, 3, 1), pkt(99, 3, 1, 2, 3),
	}
}

// calls are all that a protocol may be asked to do, with a packet.
func calls() []func(n api.Nego, p api.Pkt) outcome {
	out := []func(n api.Nego, p api.Pkt) outcome{taken, func(n api.Nego, _ api.Pkt) outcome { return ticked(n) }}
	for event := -1; event < api.EReq; event++ {
		out = append(out, func(n api.Nego, _ api.Pkt) outcome { return done(n, event) })
	}
	return out
}

// R3: nothing is written into what is handed in, nor into the room behind it; and nothing that is handed out shares memory with it.
func TestLeavesItsArguments(t *testing.T) {
	for _, n := range protocols() {
		for _, p := range fewPackets(n) {
			for i, call := range calls() {
				m, q := roomy(n), roomyPkt(p)
				was := seen(m, q)
				got := call(m, q)
				nego.Right(m)
				nego.Magic(m)
				nego.Same(m, got.n)
				if seen(m, q) != was {
					t.Fatalf("call %d with %v wrote into what was handed in", i, p)
				}
				if scrawl(got); seen(m, q) != was {
					t.Fatalf("call %d with %v hands out what was handed in", i, p)
				}
			}
		}
	}
	n := nego.New(lcpRule())
	scrawl(outcome{n: n})
	if hexOf(nego.New(lcpRule()).Ours) != "3=c22305,5=00000005" {
		t.Error("New hands out what it keeps")
	}
}

// R3: what is handed out stays as it is when what was handed in is written into, and its parts share no memory with one another.
func TestKeepsNothing(t *testing.T) {
	for _, n := range protocols() {
		for _, p := range fewPackets(n) {
			for i, call := range calls() {
				m, q := roomy(n), roomyPkt(p)
				got, want := call(m, q), call(n, p).String()
				scrawlOpts(m.Ours)
				scrawlOpts(m.Peer)
				scrawlBytes(q.Data)
				if got.String() != want {
					t.Fatalf("call %d with %v keeps what was handed in", i, p)
				}
				apart(t, got, call(n, p))
			}
		}
	}
}

// apart writes into one list of an outcome after another, and sees that all others stay.
func apart(t *testing.T, o, other outcome) {
	t.Helper()
	for i, p := range o.sent {
		scrawlBytes(p.Data)
		o.sent[i], other.sent[i] = api.Pkt{}, api.Pkt{}
		hold(t, "written into what is sent", o, other)
	}
	scrawlOpts(o.n.Peer)
	o.n.Peer, other.n.Peer = nil, nil
	hold(t, "written into the peer's options", o, other)
	for i, x := range o.n.Ours {
		scrawlBytes(x.Data)
		o.n.Ours[i], other.n.Ours[i] = api.Opt{}, api.Opt{}
		hold(t, "written into ours", o, other)
	}
}

// R4: what is answered hangs on the arguments alone: asked again, behind other calls, in other order, it is the same.
func TestAgain(t *testing.T) {
	var first []string
	all := protocols()
	for _, n := range all {
		for _, p := range fewPackets(n) {
			for _, call := range calls() {
				first = append(first, call(n, p).String())
			}
		}
	}
	for i := len(all) - 1; i >= 0; i-- {
		few := fewPackets(all[i])
		for j := len(few) - 1; j >= 0; j-- {
			for k := len(calls()) - 1; k >= 0; k-- {
				got := calls()[k](roomy(all[i]), roomyPkt(few[j])).String()
				if want := first[(i*len(few)+j)*len(calls())+k]; got != want {
					t.Fatalf("%s behind other calls, not %s", got, want)
				}
			}
		}
	}
}

// R1: no call panics, and each ends, of protocols that aren't right, and of packets that are too long.
func TestWrong(t *testing.T) {
	numbers := []int{math.MinInt, -1, 0, 3, 6, 9, 10, math.MaxInt}
	huge := make([]byte, 1<<16)
	lists := [][]api.Opt{nil, {{Type: 5}}, {{Type: 5, Data: huge}}, {{Type: 3, Data: make([]byte, 254)}}, make([]api.Opt, 3000)}
	for _, x := range numbers {
		for _, y := range numbers {
			for i, l := range lists {
				n := api.Nego{A: api.Auto{State: x, Count: y, Left: y, Id: 3}, R: api.Rule{Ip: i%2 == 0}, Ours: l, Naks: y, Peer: lists[len(lists)-1-i]}
				if nego.Right(n) && i > 0 {
					t.Errorf("%d %d %d is right", x, y, i)
				}
				nego.Magic(n)
				nego.Same(n, n)
				for _, event := range append(numbers, api.EUp, api.EOpen) {
					done(n, event)
				}
				ticked(n)
				for _, p := range fewPackets(api.Nego{A: n.A}) {
					taken(n, p)
				}
			}
		}
	}
}

// R1: packets that are longer than they may be are taken without a panic, of all codes.
func TestTooLong(t *testing.T) {
	options := slices.Repeat([]byte{5, 6, 0, 0, 0, 5}, 20000)
	for state := range api.States {
		for code := range byte(14) {
			for _, r := range []api.Rule{lcpRule(), ipRule()} {
				for _, data := range [][]byte{options, slices.Repeat([]byte{7, 2}, 50000), make([]byte, 100000)} {
					if got := taken(in(state, r), pkt(code, 40, data...)); !nego.Right(got.n) {
						t.Errorf("state %d, code %d: %s", state, code, got.short())
					}
				}
			}
		}
	}
}

// P14.4: what agrees to nothing doesn't agree to what can't be told as bytes.
func TestUntoldNotAgreed(t *testing.T) {
	n := in(api.ReqSent, lcpRule())
	n.Ours = []api.Opt{{Type: 9, Data: make([]byte, 254)}}
	hold(t, "agreed to nothing", taken(n, pkt(api.ConfAck, 40)), outcome{n: n})
}
