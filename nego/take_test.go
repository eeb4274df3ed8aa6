package nego_test

import (
	"bytes"
	"fmt"
	"slices"
	"testing"

	"portreeve/api"
	"portreeve/nego"
)

// takes asks of a packet in each state, by hand; in Initial and Starting nothing happens.
func takes(t *testing.T, r api.Rule, p api.Pkt, want ...string) {
	t.Helper()
	all := [10]string{same, same}
	copy(all[2:], want)
	eachState(t, fmt.Sprint("ip ", r.Ip, ", packet ", p), r, func(n api.Nego) outcome { return taken(n, p) }, all)
}

// silent is what is wanted of a packet at which nothing happens.
func silent() []string { return slices.Repeat([]string{same}, 8) }

// P14.3: a ConfReq that may be is acknowledged with its Id and all its options, in each state that answers it; in Closed there is a TermAck.
func TestGoodRequest(t *testing.T) {
	takes(t, lcpRule(), pkt(api.ConfReq, 9, 7, 2),
		"2 6/9/", "8 1/41/"+own+" 2/9/0702", "4", "5", "8 2/9/0702", "9 2/9/0702 told 1", "8 2/9/0702", "8 1/41/"+own+" 2/9/0702 told 2")
	takes(t, lcpRule(), pkt(api.ConfReq, 40),
		"2 6/40/", "8 1/41/"+own+" 2/40/", "4", "5", "8 2/40/", "9 2/40/ told 1", "8 2/40/", "8 1/41/"+own+" 2/40/ told 2")
	takes(t, ipRule(), pkt(api.ConfReq, 0, 3, 6, 10, 0, 0, 2),
		"2 6/0/", "8 1/41/"+ownIp+" 2/0/03060a000002", "4", "5", "8 2/0/03060a000002", "9 2/0/03060a000002 told 1", "8 2/0/03060a000002", "8 1/41/"+ownIp+" 2/0/03060a000002 told 2")
}

// P14.3: a ConfReq that may not be so is answered with how it should be, or with what isn't known.
func TestBadRequest(t *testing.T) {
	for bad, p := range map[string]api.Pkt{
		" 3/9/050600000909": pkt(api.ConfReq, 9, 7, 2, 5, 6, 0, 0, 0, 5),
		" 4/9/0902":         pkt(api.ConfReq, 9, 9, 2, 5, 6, 0, 0, 0, 5),
	} {
		takes(t, lcpRule(), p, "2 6/9/", "6 1/41/"+own+bad, "4", "5", "6"+bad, "7"+bad, "6"+bad, "6 1/41/"+own+bad+" told 2")
	}
	bad := " 3/9/03060a000002"
	for _, data := range [][]byte{nil, {3, 6, 0, 0, 0, 0}, {3, 6, 10, 0, 0, 3}} {
		takes(t, ipRule(), pkt(api.ConfReq, 9, data...), "2 6/9/", "6 1/41/"+ownIp+bad, "4", "5", "6"+bad, "7"+bad, "6"+bad, "6 1/41/"+ownIp+bad+" told 2")
	}
}

// P14.3: nothing happens at a ConfReq whose Data are no options.
func TestNoOptions(t *testing.T) {
	for _, data := range [][]byte{{7}, {7, 0}, {7, 1}, {7, 3}, {7, 2, 8}, {7, 2, 8, 1}, {1, 5, 0, 64}, {7, 2, 1, 255, 0}} {
		takes(t, lcpRule(), pkt(api.ConfReq, 9, data...), silent()...)
		takes(t, ipRule(), pkt(api.ConfReq, 9, data...), silent()...)
		takes(t, lcpRule(), pkt(api.ConfNak, 40, data...), silent()...)
		takes(t, lcpRule(), pkt(api.ConfRej, 40, data...), silent()...)
	}
}

// P14.3: what was acknowledged is kept as the peer's, and no refusal counts any more; what was refused is counted, and the peer's options stay; a rejection counts for nothing.
func TestKeeps(t *testing.T) {
	for _, state := range []int{api.ReqSent, api.AckRcvd, api.AckSent, api.Opened} {
		n := in(state, lcpRule())
		for _, x := range []struct {
			data []byte
			naks int
			peer string
		}{
			{[]byte{1, 4, 5, 220, 7, 2}, 0, "1=05dc,7="}, {nil, 0, ""}, {[]byte{1, 4, 0, 1}, 3, "8="}, {[]byte{99, 2}, 2, "8="}, {[]byte{99, 2, 1, 4, 0, 1}, 2, "8="}, {[]byte{99, 1}, 2, "8="},
		} {
			got := taken(n, pkt(api.ConfReq, 1, x.data...)).n
			if got.Naks != x.naks || hexOf(got.Peer) != x.peer {
				t.Errorf("%v in state %d: %d, %s", x.data, state, got.Naks, hexOf(got.Peer))
			}
		}
	}
}

// P14.3: where it isn't answered, in Closed, Closing and Stopping, nothing is kept of a ConfReq.
func TestKeepsNothingUnanswered(t *testing.T) {
	for _, state := range []int{api.Closed, api.Closing, api.Stopping} {
		for _, data := range [][]byte{nil, {7, 2}, {1, 4, 0, 1}, {99, 2}} {
			got := taken(in(state, lcpRule()), pkt(api.ConfReq, 1, data...)).n
			if got.Naks != 2 || hexOf(got.Peer) != "8=" {
				t.Errorf("%v in state %d: %d, %s", data, state, got.Naks, hexOf(got.Peer))
			}
		}
	}
}

// P14.3: three refusals, then rejections; an acknowledgement lets all begin again.
func TestRefusesOftenEnough(t *testing.T) {
	n := done(done(nego.New(lcpRule()), api.EOpen).n, api.EUp).n
	small, good := pkt(api.ConfReq, 1, 1, 4, 0, 1), pkt(api.ConfReq, 1, 1, 4, 1, 0)
	for range 2 {
		for i, want := range []byte{api.ConfNak, api.ConfNak, api.ConfNak, api.ConfRej, api.ConfRej} {
			got := taken(n, small)
			if got.sent[0].Code != want || got.n.Naks != min(i+1, 3) {
				t.Fatalf("%d: %s", i, got)
			}
			n = got.n
		}
		n = taken(n, good).n
		if n.Naks != 0 {
			t.Fatal(n.Naks)
		}
	}
}

// P14.3: in Stopped what was refused in the negotiation that is over doesn't count.
func TestStoppedRefusesAnew(t *testing.T) {
	for naks := range 4 {
		n := in(api.Stopped, ipRule())
		n.Naks = naks
		got := taken(n, pkt(api.ConfReq, 1, 3, 6, 1, 2, 3, 4))
		brief(t, "another address", got, "6 1/41/"+ownIp+" 3/1/03060a000002")
		if got.n.Naks != 1 || len(got.n.Peer) != 0 {
			t.Errorf("%d: %s", naks, got)
		}
		hold(t, "no options", taken(n, pkt(api.ConfReq, 1, 3)), outcome{n: n})
	}
}

// P14.3: a ConfAck is one just with the Id of our request and all its bytes; else nothing happens.
func TestAcknowledged(t *testing.T) {
	bytesOwn := []byte{3, 5, 194, 35, 5, 5, 6, 0, 0, 0, 5}
	takes(t, lcpRule(), pkt(api.ConfAck, 40, bytesOwn...),
		"2 6/40/", "3 6/40/", "4", "5", "7", "6 1/41/"+own, "9 told 1", "6 1/41/"+own+" told 2")
	takes(t, ipRule(), pkt(api.ConfAck, 40, 3, 6, 10, 0, 0, 254),
		"2 6/40/", "3 6/40/", "4", "5", "7", "6 1/41/"+ownIp, "9 told 1", "6 1/41/"+ownIp+" told 2")
	for _, data := range [][]byte{nil, bytesOwn[:5], bytesOwn[5:], bytesOwn[:10], append(bytesOwn, 7, 2), append(bytesOwn[5:], bytesOwn[:5]...), {3, 5, 194, 35, 5, 5, 6, 0, 0, 0, 6}} {
		takes(t, lcpRule(), pkt(api.ConfAck, 40, data...), silent()...)
	}
	for _, id := range []byte{0, 39, 41, 255} {
		takes(t, lcpRule(), pkt(api.ConfAck, id, 3, 5, 194, 35, 5, 5, 6, 0, 0, 0, 5), silent()...)
	}
}

// P14.3: a ConfNak, or a ConfRej, of our request is turned to by the rule, and asked for anew with what comes of it.
func TestRefused(t *testing.T) {
	for _, x := range []struct {
		p    api.Pkt
		r    api.Rule
		ours string
	}{
		{pkt(api.ConfNak, 40, 5, 6, 0, 0, 0, 3), lcpRule(), "0305c22305050600000909"},
		{pkt(api.ConfNak, 40, 7, 2), lcpRule(), own},
		{pkt(api.ConfNak, 40), lcpRule(), own},
		{pkt(api.ConfRej, 40, 5, 6, 0, 0, 0, 5), lcpRule(), "0305c22305"},
		{pkt(api.ConfRej, 40, 9, 2), lcpRule(), own},
		{pkt(api.ConfRej, 40, 3, 6, 10, 0, 0, 254), ipRule(), ""},
		{pkt(api.ConfNak, 40, 3, 6, 10, 0, 0, 9), ipRule(), ownIp},
	} {
		takes(t, x.r, x.p, "2 6/40/", "3 6/40/", "4", "5", "6 1/41/"+x.ours, "6 1/41/"+x.ours, "8 1/41/"+x.ours, "6 1/41/"+x.ours+" told 2")
		for state := api.Closed; state <= api.Opened; state++ {
			if got := taken(in(state, x.r), x.p); fmt.Sprintf("%x", laid(got.n.Ours)) != x.ours {
				t.Errorf("%v in state %d: %s", x.p, state, got)
			}
		}
	}
}

// P14.3: where the rule says that that may not be, as with who won't be asked who he is, we close, and ask for the same.
func TestRefusedOutright(t *testing.T) {
	for _, p := range []api.Pkt{
		pkt(api.ConfRej, 40, 3, 5, 194, 35, 5), pkt(api.ConfRej, 40, 5, 6, 0, 0, 0, 5, 3, 2), pkt(api.ConfNak, 40, 3, 4, 192, 35), pkt(api.ConfNak, 40, 3, 4, 192, 35, 5, 6, 0, 0, 0, 1),
	} {
		takes(t, lcpRule(), p, "2", "2", "4", "4", "4 5/41/", "4 5/41/", "4 5/41/", "4 5/41/ told 2")
		for state := api.Closed; state <= api.Opened; state++ {
			if got := taken(in(state, lcpRule()), p); fmt.Sprintf("%x", laid(got.n.Ours)) != own {
				t.Errorf("%v in state %d: %s", p, state, got)
			}
		}
	}
}

// P14.3: nothing happens at a ConfNak, or a ConfRej, of another request.
func TestRefusedOther(t *testing.T) {
	for _, code := range []byte{api.ConfNak, api.ConfRej} {
		for _, id := range []byte{0, 39, 41, 255} {
			takes(t, lcpRule(), pkt(code, id, 5, 6, 0, 0, 0, 3), silent()...)
			takes(t, lcpRule(), pkt(code, id, 3, 2), silent()...)
			takes(t, ipRule(), pkt(code, id, 3, 6, 10, 0, 0, 254), silent()...)
		}
	}
}

// P14.3: a TermReq is answered with a TermAck of nothing, with its Id; a TermAck is heard, whatever its Id.
func TestTerminated(t *testing.T) {
	for _, r := range []api.Rule{lcpRule(), ipRule()} {
		takes(t, r, pkt(api.TermReq, 9, 1, 2, 3), "2 6/9/", "3 6/9/", "4 6/9/", "5 6/9/", "6 6/9/", "6 6/9/", "6 6/9/", "5 6/9/ told 2")
	}
	for _, id := range []byte{0, 40, 41, 255} {
		takes(t, lcpRule(), pkt(api.TermAck, id, 7), "2", "3", "2 told 4", "3 told 4", "6", "6", "8", "6 1/41/"+own+" told 2")
		takes(t, ipRule(), pkt(api.TermAck, id), "2", "3", "2 told 4", "3 told 4", "6", "6", "8", "6 1/41/"+ownIp+" told 2")
	}
}

// P14.3: a code that isn't the protocol's is rejected, with the automaton's Id, as a whole packet.
func TestUnknownCode(t *testing.T) {
	rejects := func(r api.Rule, p api.Pkt, rej string) {
		t.Helper()
		var want []string
		for state := api.Closed; state <= api.Opened; state++ {
			want = append(want, fmt.Sprint(state, rej))
		}
		takes(t, r, p, want...)
	}
	for _, code := range []byte{0, 12, 13, 99, 255} {
		rejects(lcpRule(), pkt(code, 9, 8), fmt.Sprintf(" 7/40/%02x09000508", code))
		rejects(ipRule(), pkt(code, 40), fmt.Sprintf(" 7/40/%02x280004", code))
	}
	for code := byte(api.ProtoRej); code <= api.Discard; code++ {
		rejects(ipRule(), pkt(code, 9, 0xC0, 0x21, 0, 0), fmt.Sprintf(" 7/40/%02x090008c0210000", code))
	}
	full := bytes.Repeat([]byte{0xAB}, 1496)
	rejects(lcpRule(), pkt(77, 1, full...), fmt.Sprintf(" 7/40/4d0105dc%x", full[4:]))
}

// P14.3: a CodeRej of one of the codes 1 to 7 is a bad one; of another one, or of none, it may be.
func TestCodeRejected(t *testing.T) {
	for code := range 256 {
		for _, r := range []api.Rule{lcpRule(), ipRule()} {
			p, q := pkt(api.CodeRej, 9, byte(code)), pkt(api.CodeRej, 40, byte(code), 1, 0, 4)
			if 1 <= code && code <= 7 {
				takes(t, r, p, "2 told 4", "3 told 4", "2 told 4", "3 told 4", "3 told 4", "3 told 4", "3 told 4", "5 5/41/ told 2")
				takes(t, r, q, "2 told 4", "3 told 4", "2 told 4", "3 told 4", "3 told 4", "3 told 4", "3 told 4", "5 5/41/ told 2")
			} else {
				takes(t, r, p, "2", "3", "4", "5", "6", "6", "8", "9")
				takes(t, r, q, "2", "3", "4", "5", "6", "6", "8", "9")
			}
		}
	}
	takes(t, lcpRule(), pkt(api.CodeRej, 9), "2", "3", "4", "5", "6", "6", "8", "9")
}

// P14.3: a ProtoRej of LCP is a bad one; of another protocol, or of half a number, it may be.
func TestProtoRejected(t *testing.T) {
	for _, data := range [][]byte{{0xC0, 0x21}, {0xC0, 0x21, 1, 2, 3}} {
		takes(t, lcpRule(), pkt(api.ProtoRej, 9, data...), "2 told 4", "3 told 4", "2 told 4", "3 told 4", "3 told 4", "3 told 4", "3 told 4", "5 5/41/ told 2")
	}
	for _, data := range [][]byte{nil, {0xC0}, {0x21}, {0xC0, 0x22}, {0xC2, 0x23}, {0x80, 0x21}, {0x21, 0xC0}, {0, 0x21}, {0, 0xC0, 0x21}, {1}} {
		takes(t, lcpRule(), pkt(api.ProtoRej, 9, data...), "2", "3", "4", "5", "6", "6", "8", "9")
	}
}

// P14.3: an EchoReq is answered in Opened alone, with its Id, our magic number, and what it holds behind four bytes; with fewer nothing happens.
func TestEchoes(t *testing.T) {
	takes(t, lcpRule(), pkt(api.EchoReq, 9, 1, 2, 3, 4), "2", "3", "4", "5", "6", "7", "8", "9 10/9/00000005")
	takes(t, lcpRule(), pkt(api.EchoReq, 40, 1, 2, 3, 4, 5, 6), "2", "3", "4", "5", "6", "7", "8", "9 10/40/000000050506")
	for n := range 4 {
		takes(t, lcpRule(), pkt(api.EchoReq, 9, make([]byte, n)...), silent()...)
	}
	n := in(api.Opened, lcpRule())
	n.Ours = n.Ours[:1]
	brief(t, "an echo without a magic number", taken(n, pkt(api.EchoReq, 1, 9, 9, 9, 9, 7)), "9 10/1/0000000007")
}

// P14.3: nothing happens at an EchoReply, nor at a Discard.
func TestDiscards(t *testing.T) {
	for _, code := range []byte{api.EchoReply, api.Discard} {
		for _, data := range [][]byte{nil, {1, 2, 3, 4}, {0, 0, 0, 5, 9}} {
			takes(t, lcpRule(), pkt(code, 40, data...), silent()...)
		}
	}
}

// P14.3: all packets do what the chapter's words have them do, in all states, whatever is asked for.
func TestTakeAll(t *testing.T) {
	for _, n := range protocols() {
		for _, p := range packets(n) {
			got, want := taken(n, p), wantTake(n, p)
			if !alike(got, want) {
				hold(t, fmt.Sprintf("%s: code %d Id %d, %x", outcome{n: n}, p.Code, p.Id, p.Data), got, want)
			}
		}
	}
}
