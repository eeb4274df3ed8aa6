package nego_test

import (
	"fmt"
	"math/rand"
	"slices"
	"testing"

	"portreeve/api"
	"portreeve/nego"
	"portreeve/rules"
)

// P14.4: what comes out of any right protocol is right.
func TestComesOutRight(t *testing.T) {
	for _, n := range protocols() {
		out := []outcome{ticked(n)}
		for event := -1; event <= api.Events; event++ {
			out = append(out, done(n, event))
		}
		for _, p := range packets(n) {
			out = append(out, taken(n, p))
		}
		for _, got := range out {
			if !nego.Right(got.n) {
				t.Fatalf("%s isn't right, of %s", got, outcome{n: n})
			}
		}
	}
}

// P14.2 to P14.4: on long ways from the beginning all is right at each step, and as the chapter's words have it.
func TestLongWays(t *testing.T) {
	r := rand.New(rand.NewSource(4))
	for way := range 60 {
		n := nego.New([]api.Rule{lcpRule(), ipRule()}[way%2])
		for i := range 1000 {
			var got, want outcome
			switch x := r.Intn(12); {
			case x < 2:
				event := []int{api.EUp, api.EOpen, api.EUp, api.EOpen, api.EClose, api.EDown}[r.Intn(6)]
				got, want = done(n, event), wantDone(n, event, api.Pkt{})
			case x < 4:
				got, want = ticked(n), wantTick(n)
			default:
				p := likely(r, n)
				got, want = taken(n, p), wantTake(n, p)
			}
			hold(t, fmt.Sprintf("way %d, step %d", way, i), got, want)
			if !nego.Right(got.n) {
				t.Fatalf("way %d, step %d: %s isn't right", way, i, got)
			}
			n = got.n
		}
	}
}

// likely is a packet as it may well come to a protocol: a request, an answer to its own, or what else there is.
func likely(r *rand.Rand, n api.Nego) api.Pkt {
	switch r.Intn(5) {
	case 0:
		return pkt(api.ConfAck, n.A.Id, laid(n.Ours)...)
	case 1:
		return pkt(api.ConfReq, byte(r.Intn(256)), laid(rules.Ask(api.Rule{Ip: true, Ours: n.R.Addr}))...)
	case 2:
		return pkt(api.ConfReq, byte(r.Intn(256)), 7, 2)
	}
	all := holds(n)
	return pkt(byte(r.Intn(13)), n.A.Id, all[r.Intn(len(all))]...)
}

// P14.4: a ConfAck that is sent has the request's Id, and all its options, and comes of a ConfReq alone.
func TestAcksWhole(t *testing.T) {
	count := 0
	for _, n := range protocols() {
		for _, p := range packets(n) {
			for _, s := range taken(n, p).sent {
				if s.Code != api.ConfAck {
					continue
				}
				count++
				if p.Code != api.ConfReq || s.Id != p.Id || string(s.Data) != string(p.Data) {
					t.Fatalf("%v is acknowledged with %v", p, s)
				}
			}
		}
	}
	if count == 0 {
		t.Error("nothing is acknowledged")
	}
}

// P14.4: what we ask for is agreed to just by its own bytes: with a bit of them changed, or one byte less, or one more, nothing happens; nor with another Id.
func TestAgreedByItsBytes(t *testing.T) {
	for _, r := range []api.Rule{lcpRule(), ipRule(), {}} {
		for _, ours := range someOurs(r) {
			n := in(api.ReqSent, r)
			n.Ours = ours
			right := laid(ours)
			for _, data := range near(right) {
				hold(t, fmt.Sprintf("%x", data), taken(n, pkt(api.ConfAck, 40, data...)), outcome{n: n})
			}
			for id := range 256 {
				want := api.ReqSent
				if id == 40 {
					want = api.AckRcvd
				}
				if got := taken(n, pkt(api.ConfAck, byte(id), right...)); got.n.A.State != want {
					t.Errorf("%x, Id %d: %s", right, id, got)
				}
			}
		}
	}
}

// near are bytes that differ from b in one thing.
func near(b []byte) [][]byte {
	out := [][]byte{append(slices.Clone(b), 0), append([]byte{0}, b...), append(slices.Clone(b), 7, 2)}
	for i := range b {
		out = append(out, b[:i], slices.Delete(slices.Clone(b), i, i+1))
		for bit := range 8 {
			changed := slices.Clone(b)
			changed[i] ^= 1 << bit
			out = append(out, changed)
		}
	}
	return out
}

// P14.3, P14.4: two of IPCP that talk to each other, each with the other's address, both come up, with what the other one asked for, and go down together.
func TestTalk(t *testing.T) {
	a, b := api.Rule{Ip: true, Addr: 2, Ours: 1}, api.Rule{Ip: true, Addr: 1, Ours: 2}
	pair := [2]api.Nego{nego.New(a), nego.New(b)}
	var way [2][]api.Pkt // what is under way to each
	step := func(i int, o outcome) {
		pair[i] = o.n
		way[1-i] = append(way[1-i], o.sent...)
	}
	settle := func() {
		for range 100 {
			for i := range 2 {
				if len(way[i]) > 0 {
					p := way[i][0]
					way[i] = way[i][1:]
					step(i, taken(pair[i], p))
				}
			}
		}
	}
	for i := range 2 {
		step(i, done(pair[i], api.EOpen))
		step(i, done(pair[i], api.EUp))
	}
	settle()
	for i, n := range pair {
		if n.A.State != api.Opened || hexOf(n.Peer) != fmt.Sprintf("3=%08x", 2-i) || len(way[i]) > 0 {
			t.Errorf("%d: %s, under way %v", i, outcome{n: n}, way[i])
		}
	}
	step(0, done(pair[0], api.EClose))
	settle()
	for range 3 {
		step(1, ticked(pair[1]))
	}
	settle()
	if pair[0].A.State != api.Closed || pair[1].A.State != api.Stopped {
		t.Errorf("closed: %s; %s", outcome{n: pair[0]}, outcome{n: pair[1]})
	}
}

// P14.3, P14.4: two lines of LCP that are one (a loop) don't come up: they refuse their own magic number, and who is asked who he is.
func TestLoop(t *testing.T) {
	n := done(done(nego.New(lcpRule()), api.EOpen).n, api.EUp)
	for range 100 {
		var back []api.Pkt
		for _, p := range n.sent {
			got := taken(n.n, p)
			n.n, back = got.n, append(back, got.sent...)
		}
		if n.sent = back; n.n.A.State == api.Opened {
			t.Fatal("a loop came up")
		}
	}
}
