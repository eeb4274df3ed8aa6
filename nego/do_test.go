package nego_test

import (
	"fmt"
	"math"
	"testing"

	"portreeve/api"
	"portreeve/nego"
)

// What in's protocols ask for, as bytes: of LCP, and of IPCP.
const (
	own   = "0305c22305050600000005"
	ownIp = "03060a0000fe"
)

// same stands in a list of what is wanted for: nothing happens.
const same = "="

// eachState asks of a protocol in each state, by hand: what is sent and told, or that nothing happens.
func eachState(t *testing.T, what string, r api.Rule, ask func(n api.Nego) outcome, want [10]string) {
	t.Helper()
	for state, w := range want {
		n := in(state, r)
		got, what := ask(n), fmt.Sprintf("%s in state %d", what, state)
		if w != same {
			brief(t, what, got, w)
			continue
		}
		hold(t, what, got, outcome{n: n})
	}
}

// P14.2: what the layers beside it do, in each state, by hand.
func TestDoKnown(t *testing.T) {
	for event, want := range map[int][10]string{
		api.EUp:    {"2", "6 1/41/" + own, same, same, same, same, same, same, same, same},
		api.EDown:  {same, same, "0", "1 told 3", "0", "1", "1", "1", "1", "1 told 2"},
		api.EOpen:  {"1 told 3", "1", "6 1/41/" + own, "3", "5", "5", "6", "7", "8", "9"},
		api.EClose: {"0", "0 told 4", "2", "2", "4", "4", "4 5/41/", "4 5/41/", "4 5/41/", "4 5/41/ told 2"},
	} {
		eachState(t, fmt.Sprint("LCP: event ", event), lcpRule(), func(n api.Nego) outcome { return done(n, event) }, want)
	}
	up := [10]string{"2", "6 1/41/" + ownIp, same, same, same, same, same, same, same, same}
	eachState(t, "IPCP: up", ipRule(), func(n api.Nego) outcome { return done(n, api.EUp) }, up)
}

// P14.2: the chapter's example: New, EOpen, EUp: a ConfReq with Id 1.
func TestBegins(t *testing.T) {
	first := done(nego.New(lcpRule()), api.EOpen)
	brief(t, "open", first, "1 told 3")
	second := done(first.n, api.EUp)
	brief(t, "up", second, "6 1/1/"+own)
	hold(t, "the protocol", outcome{n: second.n}, outcome{n: api.Nego{
		A: api.Auto{State: api.ReqSent, Count: 4, Left: 3, Id: 1}, R: lcpRule(), Ours: nego.New(lcpRule()).Ours,
	}})
}

// P14.2: of all right protocols events do what the chapter's words have them do.
func TestDoAll(t *testing.T) {
	for _, n := range protocols() {
		for _, event := range []int{api.EUp, api.EDown, api.EOpen, api.EClose} {
			hold(t, fmt.Sprint("event ", event), done(n, event), wantDone(n, event, api.Pkt{}))
		}
	}
}

// P14.2: other events aren't done by a layer beside it, nor what is no event: nothing happens, in whatever state.
func TestDoOthers(t *testing.T) {
	events := []int{math.MinInt, -2, -1, 16, 17, 1 << 32, 1<<32 + 2, math.MaxInt}
	for event := api.EMore; event < api.Events; event++ {
		events = append(events, event)
	}
	for _, n := range protocols() {
		for _, event := range events {
			hold(t, fmt.Sprint("event ", event), done(n, event), outcome{n: n})
		}
	}
}

// P14.2: a tick, by hand: nothing but that the time goes on, while it isn't over; then what is waited for is sent once more, or given up.
func TestTickKnown(t *testing.T) {
	after := func(count, left int) func(n api.Nego) outcome {
		return func(n api.Nego) outcome {
			if n.A.Count = count; n.A.Left > 0 {
				n.A.Left = left
			}
			return ticked(n)
		}
	}
	eachState(t, "a tick amid", lcpRule(), after(3, 3), [10]string{"0", "1", "2", "3", "4", "5", "6", "7", "8", "9"})
	eachState(t, "a tick that is the last", lcpRule(), after(3, 1), [10]string{"0", "1", "2", "3", "4 5/41/", "5 5/41/", "6 1/41/" + own, "6 1/41/" + own, "8 1/41/" + own, "9"})
	eachState(t, "a tick that is the last, of IPCP", ipRule(), after(1, 1), [10]string{"0", "1", "2", "3", "4 5/41/", "5 5/41/", "6 1/41/" + ownIp, "6 1/41/" + ownIp, "8 1/41/" + ownIp, "9"})
	eachState(t, "a tick that is the very last", lcpRule(), after(0, 1), [10]string{"0", "1", "2", "3", "2 told 4", "3 told 4", "3 told 4", "3 told 4", "3 told 4", "9"})
}

// P14.2: of all right protocols ticks do what the chapter's words have them do.
func TestTickAll(t *testing.T) {
	for _, n := range protocols() {
		want := wantTick(n)
		for i := range 20 {
			got := ticked(n)
			hold(t, fmt.Sprint("tick ", i), got, want)
			n, want = got.n, wantTick(got.n)
		}
	}
}

// P14.2: left alone, a protocol asks five times, every three ticks, always for the same, each time by another Id, and then is finished.
func TestLeftAlone(t *testing.T) {
	n := done(done(nego.New(ipRule()), api.EOpen).n, api.EUp).n
	for i := 1; i <= 40; i++ {
		want := "6"
		switch {
		case i == 15:
			want = "3 told 4"
		case i > 15:
			want = "3"
		case i%3 == 0:
			want = fmt.Sprintf("6 1/%d/%s", 1+i/3, ownIp)
		}
		got := ticked(n)
		brief(t, fmt.Sprint("tick ", i), got, want)
		n = got.n
	}
}

// P14.2, P14.3: where a negotiation begins, it asks for what the rule does, whatever was asked for ahead of it, has refused nothing, and has nothing of the peer.
func TestBeginsAnew(t *testing.T) {
	old := func(state int) api.Nego {
		n := in(state, lcpRule())
		n.Ours, n.Naks = n.Ours[:1], 3
		return n
	}
	strange := pkt(api.ConfReq, 9, 9, 2)
	for i, got := range []outcome{done(old(api.Starting), api.EUp), done(old(api.Closed), api.EOpen), taken(old(api.Stopped), strange)} {
		want := in(api.ReqSent, lcpRule())
		want.A, want.Naks, want.Peer = api.Auto{State: api.ReqSent, Count: 4, Left: 3, Id: 41}, 0, nil
		hold(t, fmt.Sprint("anew ", i), outcome{n: got.n}, outcome{n: want})
		if got.sent[0].Code != api.ConfReq || fmt.Sprintf("%x", got.sent[0].Data) != own {
			t.Errorf("%d: sends %v", i, got.sent)
		}
	}
}

// P14.2, P14.3: where none begins, all of that stays, though a request is sent, and the counter begins too.
func TestGoesOn(t *testing.T) {
	rejected := pkt(api.ConfRej, 40, 200, 2)
	for state := api.ReqSent; state <= api.Opened; state++ {
		n := in(state, lcpRule())
		n.Ours, n.Naks = n.Ours[:1], 3
		for _, got := range []outcome{taken(n, rejected), taken(n, pkt(api.TermAck, 1)), done(n, api.EOpen), done(n, api.EClose), done(n, api.EDown), ticked(n)} {
			hold(t, fmt.Sprint("going on in state ", state), outcome{n: api.Nego{R: got.n.R, Ours: got.n.Ours, Naks: got.n.Naks, Peer: got.n.Peer}}, outcome{n: api.Nego{R: n.R, Ours: n.Ours, Naks: 3, Peer: n.Peer}})
		}
		brief(t, "a request that is sent again", taken(n, rejected), map[int]string{
			api.ReqSent: "6 1/41/0305c22305", api.AckRcvd: "6 1/41/0305c22305", api.AckSent: "8 1/41/0305c22305", api.Opened: "6 1/41/0305c22305 told 2",
		}[state])
	}
	for _, n := range []api.Nego{in(api.Initial, lcpRule()), in(api.Starting, lcpRule()), in(api.Closing, lcpRule())} {
		n.Naks, n.Ours = 1, nil
		for _, event := range []int{api.EOpen, api.EClose, api.EDown} {
			got := done(n, event)
			hold(t, fmt.Sprint("event ", event), outcome{n: api.Nego{R: n.R, Naks: got.n.Naks, Ours: got.n.Ours, Peer: got.n.Peer}}, outcome{n: api.Nego{R: n.R, Naks: 1, Peer: n.Peer}})
		}
	}
}
