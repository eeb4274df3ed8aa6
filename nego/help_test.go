package nego_test

import (
	"fmt"
	"math/rand"
	"slices"
	"strings"
	"testing"

	"portreeve/api"
	"portreeve/auto"
	"portreeve/nego"
	"portreeve/rules"
)

// outcome is what a call tells: the protocol, what is sent, what is told.
type outcome struct {
	n    api.Nego
	sent []api.Pkt
	told []int
}

// done, ticked and taken are what the calls tell.
func done(n api.Nego, event int) outcome {
	m, sent, told := nego.Do(n, event)
	return outcome{m, sent, told}
}

func ticked(n api.Nego) outcome {
	m, sent, told := nego.Tick(n)
	return outcome{m, sent, told}
}

func taken(n api.Nego, p api.Pkt) outcome {
	m, sent, told := nego.Take(n, p)
	return outcome{m, sent, told}
}

// String tells all of an outcome, so that two are the same just if their texts are.
func (o outcome) String() string {
	a, r := o.n.A, o.n.R
	return fmt.Sprintf("state %d count %d left %d id %d, rule %t %d %d %d %d, ours %s, naks %d, peer %s: %s",
		a.State, a.Count, a.Left, a.Id, r.Ip, r.Magic, r.Other, r.Addr, r.Ours, hexOf(o.n.Ours), o.n.Naks, hexOf(o.n.Peer), o.short())
}

// short tells the state, what is sent (code, Id, what it holds), and what is told.
func (o outcome) short() string {
	out := fmt.Sprint(o.n.A.State)
	for _, p := range o.sent {
		out += fmt.Sprintf(" %d/%d/%x", p.Code, p.Id, p.Data)
	}
	for _, x := range o.told {
		out += fmt.Sprintf(" told %d", x)
	}
	return out
}

// hexOf tells options.
func hexOf(l []api.Opt) string {
	var out []string
	for _, o := range l {
		out = append(out, fmt.Sprintf("%d=%x", o.Type, o.Data))
	}
	return strings.Join(out, ",")
}

// hold is a failure, where an outcome isn't the one that is wanted.
func hold(t *testing.T, what string, got, want outcome) {
	t.Helper()
	if got.String() != want.String() {
		t.Fatalf("%s:\n%s, not\n%s", what, got, want)
	}
}

// brief is a failure, where an outcome's short text isn't the one that is wanted, or what came out isn't right.
func brief(t *testing.T, what string, got outcome, want string) {
	t.Helper()
	if got.short() != want || !nego.Right(got.n) {
		t.Errorf("%s: %s, not %s", what, got, want)
	}
}

// lcpRule and ipRule are the rules that most tests are by.
func lcpRule() api.Rule { return api.Rule{Magic: 0x05, Other: 0x0909} }
func ipRule() api.Rule  { return api.Rule{Ip: true, Addr: 0x0A000002, Ours: 0x0A0000FE, Magic: 3} }

// in is a protocol in a state, as if it had been left there amid its work.
func in(state int, r api.Rule) api.Nego {
	n := api.Nego{R: r, Ours: rules.Ask(r), Naks: 2, Peer: []api.Opt{{Type: api.OAcfc}}}
	n.A = api.Auto{State: state, Count: 3, Id: 40}
	if api.Closing <= state && state <= api.AckSent {
		n.A.Left = 2
	}
	return n
}

// pkt is a packet.
func pkt(code, id byte, data ...byte) api.Pkt { return api.Pkt{Code: code, Id: id, Data: data} }

// laid is options as bytes.
func laid(l []api.Opt) []byte {
	var out []byte
	for _, o := range l {
		out = slices.Concat(out, []byte{o.Type, byte(len(o.Data) + 2)}, o.Data)
	}
	return out
}

// parted is bytes as options, and whether they are such.
func parted(b []byte) (out []api.Opt, is bool) {
	for at := 0; at < len(b); at += int(b[at+1]) {
		if at+1 >= len(b) || b[at+1] < 2 || at+int(b[at+1]) > len(b) {
			return nil, false
		}
		out = append(out, api.Opt{Type: b[at], Data: b[at+2 : at+int(b[at+1])]})
	}
	return out, true
}

// ourMagic is the magic number of a protocol, as four bytes.
func ourMagic(n api.Nego) []byte {
	for _, o := range n.Ours {
		if o.Type == 5 && !n.R.Ip {
			return o.Data
		}
	}
	return make([]byte, 4)
}

// begins are the states and events with which a negotiation begins, by hand.
func begins(state, event int) bool {
	return slices.Contains([][2]int{{api.Starting, api.EUp}, {api.Closed, api.EOpen}, {api.Stopped, api.EReq}, {api.Stopped, api.EReqBad}}, [2]int{state, event})
}

// wantDone is what an event should do, with a reply to a packet.
func wantDone(n api.Nego, event int, reply api.Pkt) outcome {
	a, actions, e := auto.Do(n.A, event)
	if e != api.OK {
		return outcome{n: n}
	}
	return wantActions(n, a, actions, reply, begins(n.A.State, event))
}

// wantActions is what actions should send and tell: what each of them sends is laid ahead.
func wantActions(n api.Nego, a api.Auto, actions []int, reply api.Pkt, begin bool) outcome {
	if begin {
		n = api.Nego{R: n.R, Ours: rules.Ask(n.R)}
	}
	n.A = a
	sends := map[int]api.Pkt{
		7: pkt(1, a.Id, laid(n.Ours)...), 8: reply, 9: reply, 10: pkt(5, a.Id), 11: pkt(6, reply.Id), 12: reply, 13: reply,
	}
	out := outcome{n: n}
	for _, action := range actions {
		if p, is := sends[action]; is {
			out.sent = append(out.sent, p)
		} else if action <= 4 {
			out.told = append(out.told, action)
		}
	}
	return out
}

// wantTick is what a tick should do.
func wantTick(n api.Nego) outcome {
	a, actions := auto.Tick(n.A)
	return wantActions(n, a, actions, api.Pkt{}, false)
}

// wantTake is what a packet should do, by the chapter's words, told as one list of cases: which event it is, and with which reply.
func wantTake(n api.Nego, p api.Pkt) outcome {
	l, are := parted(p.Data)
	mine := p.Id == n.A.Id
	first := append(slices.Clone(p.Data), 0, 0)
	last := byte(11)
	if n.R.Ip {
		last = 7
	}
	switch {
	case n.A.State == api.Initial || n.A.State == api.Starting:
	case p.Code == 0 || p.Code > last:
		whole := slices.Concat([]byte{p.Code, p.Id, byte((len(p.Data) + 4) >> 8), byte(len(p.Data) + 4)}, p.Data)
		return wantDone(n, api.ECode, pkt(7, n.A.Id, whole[:min(len(whole), 1496)]...))
	case p.Code == 1 && are:
		return wantRequest(n, p, l)
	case p.Code == 2 && mine && string(p.Data) == string(laid(n.Ours)):
		return wantDone(n, api.EAck, pkt(6, p.Id))
	case (p.Code == 3 || p.Code == 4) && mine && are:
		ours, may := rules.Turn(n.R, n.Ours, p.Code, l)
		if !may {
			return wantDone(n, api.EClose, pkt(6, p.Id))
		}
		n.Ours = ours
		return wantDone(n, api.ENak, pkt(6, p.Id))
	case p.Code == 5:
		return wantDone(n, api.ETerm, pkt(6, p.Id))
	case p.Code == 6:
		return wantDone(n, api.ETermed, pkt(6, p.Id))
	case p.Code == 7 && slices.Contains([]byte{1, 2, 3, 4, 5, 6, 7}, first[0]), p.Code == 8 && first[0] == 0xC0 && first[1] == 0x21:
		return wantDone(n, api.ERejBad, pkt(6, p.Id))
	case p.Code == 7 || p.Code == 8:
		return wantDone(n, api.ERej, pkt(6, p.Id))
	case p.Code == 9 && len(p.Data) >= 4:
		return wantDone(n, api.EEcho, pkt(10, p.Id, slices.Concat(ourMagic(n), p.Data[4:])...))
	}
	return outcome{n: n}
}

// wantRequest is what a Configure-Request should do: in the states where it is answered, told by hand, it is kept what was answered.
func wantRequest(n api.Nego, p api.Pkt, l []api.Opt) outcome {
	if n.A.State == api.Stopped {
		n.Naks = 0
	}
	code, answer := rules.Answer(n.R, l, n.Naks)
	event := map[byte]int{2: api.EReq, 3: api.EReqBad, 4: api.EReqBad}[code]
	out := wantDone(n, event, pkt(code, p.Id, laid(answer)...))
	if !slices.Contains([]int{api.Stopped, api.ReqSent, api.AckRcvd, api.AckSent, api.Opened}, n.A.State) {
		return out
	}
	switch code {
	case 2:
		out.n.Naks, out.n.Peer = 0, l
	case 3:
		out.n.Naks = []int{1, 2, 3, 3}[n.Naks]
	}
	return out
}

// someOurs are what may be asked for, of either protocol.
func someOurs(r api.Rule) [][]api.Opt {
	magic := func(b ...byte) api.Opt { return api.Opt{Type: 5, Data: b} }
	return [][]api.Opt{
		rules.Ask(r), nil, {magic(0, 0, 9, 9)}, {{Type: 3, Data: []byte{194, 35, 5}}}, {{Type: 3, Data: []byte{10, 0, 0, 1}}},
		{{Type: 7}, magic(1, 2, 3, 4), {Type: 1, Data: []byte{5, 220}}, magic(255, 0, 0, 255)}, {{Type: 200, Data: make([]byte, 253)}},
	}
}

// automata are right automata, of all states.
func automata() []api.Auto {
	var out []api.Auto
	for state := range api.States {
		for _, id := range []byte{0, 7, 255} {
			lefts := []int{0}
			if api.Closing <= state && state <= api.AckSent {
				lefts = []int{1, 3}
			}
			for _, left := range lefts {
				out = append(out, api.Auto{State: state, Count: 5, Left: left, Id: id}, api.Auto{State: state, Left: left, Id: id}, api.Auto{State: state, Count: 1, Left: left, Id: id})
			}
		}
	}
	return out
}

// protocols are right protocols: of all states, the rest of them drawn.
func protocols() []api.Nego {
	r := rand.New(rand.NewSource(14))
	byRules := []api.Rule{lcpRule(), ipRule(), {}, {Ip: true}, {Magic: 0xFFFFFFFF, Other: 1}}
	var out []api.Nego
	for _, a := range automata() {
		for range 2 {
			rule := byRules[r.Intn(len(byRules))]
			ours, peers := someOurs(rule), someOurs(rule)
			out = append(out, api.Nego{A: a, R: rule, Ours: ours[r.Intn(2)*r.Intn(len(ours))], Naks: r.Intn(4), Peer: peers[r.Intn(len(peers))]})
		}
	}
	return out
}

// holds are what packets hold that come to a protocol: options, right ones and wrong ones, and what else packets hold.
func holds(n api.Nego) [][]byte {
	out := [][]byte{
		nil, {0}, {1}, {7}, {8}, {255}, {7, 9}, {8, 9}, {0xC0}, {0xC0, 0x21}, {0xC0, 0x21, 5}, {0xC0, 0x22}, {0x80, 0x21}, {0x21, 0xC0}, {1, 2, 3}, {0, 0, 0, 0}, {1, 2, 3, 4}, {1, 2, 3, 4, 5},
		{7, 2}, {8, 2, 7, 2}, {7, 3, 0}, {9, 2}, {9, 1}, {9, 0}, {9, 3}, {1, 4, 0, 63}, {1, 4, 0, 64}, {1, 4, 5, 220, 5}, {2, 6, 0, 10, 0, 0},
		{5, 6, 0, 0, 0, 5}, {5, 6, 0, 0, 0, 6}, {5, 6, 0, 0, 0, 0}, {5, 6, 255, 255, 255, 255}, {5, 5, 1, 2, 3}, {7, 2, 5, 6, 0, 0, 9, 9},
		{3, 5, 194, 35, 5}, {3, 4, 192, 35}, {5, 6, 0, 0, 0, 5, 3, 5, 194, 35, 5}, {3, 6, 10, 0, 0, 2}, {3, 6, 10, 0, 0, 3}, {3, 6, 0, 0, 0, 0}, {3, 6, 10, 0, 0, 2, 3, 6, 1, 1, 1, 1},
		slices.Repeat([]byte{7, 2}, 748), slices.Repeat([]byte{5, 6, 0, 0, 0, 0}, 249), slices.Repeat([]byte{200, 253}, 748)[:1496],
	}
	return append(out, laid(n.Ours), laid(n.Peer), append(laid(n.Ours), 7, 2), laid(n.Ours)[:len(laid(n.Ours))/2])
}

// packets are packets that come to a protocol.
func packets(n api.Nego) []api.Pkt {
	var out []api.Pkt
	for _, data := range holds(n) {
		for _, code := range []byte{0, 1, 2, 3, 4, 5, 6, 7, 8, 9, 10, 11, 12, 99, 255} {
			out = append(out, pkt(code, n.A.Id, data...), pkt(code, n.A.Id+1, data...), pkt(code, n.A.Id-1, data...))
		}
	}
	return out
}

// alike: are two outcomes the same? It is asked where telling them as texts would take too long.
func alike(a, b outcome) bool {
	return slices.Equal(a.told, b.told) && alikeOpts(a.n.Ours, b.n.Ours) && alikeOpts(a.n.Peer, b.n.Peer) &&
		a.n.A == b.n.A && a.n.R == b.n.R && a.n.Naks == b.n.Naks &&
		slices.EqualFunc(a.sent, b.sent, func(x, y api.Pkt) bool {
			return x.Code == y.Code && x.Id == y.Id && string(x.Data) == string(y.Data)
		})
}

// alikeOpts: are two lists of options the same?
func alikeOpts(a, b []api.Opt) bool {
	return slices.EqualFunc(a, b, func(x, y api.Opt) bool { return x.Type == y.Type && string(x.Data) == string(y.Data) })
}
