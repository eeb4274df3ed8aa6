package auto_test

import (
	"testing"

	"portreeve/api"
	"portreeve/auto"
)

// P12.2: all events of all right automata.
func TestDo(t *testing.T) {
	everyRight(func(a api.Auto) {
		for event := range api.Events {
			hold(t, done(a, event), wanted(a, event), "event", a, event)
		}
	})
}

// P12.2: answers by hand; the chapter's example first.
func TestDoKnown(t *testing.T) {
	for i, k := range []struct {
		a     api.Auto
		event int
		want  answer
	}{
		{api.Auto{State: api.Starting}, api.EUp, answer{api.Auto{State: 6, Count: 4, Left: 3, Id: 1}, []int{api.AIrc, api.AScr}, 0}},
		{api.Auto{State: api.Initial, Count: 3, Id: 9}, api.EOpen, answer{api.Auto{State: 1, Count: 3, Id: 9}, []int{api.ATls}, 0}},
		{api.Auto{State: api.Opened, Count: 5}, api.EClose, answer{api.Auto{State: 4, Count: 1, Left: 3, Id: 1}, []int{api.ATld, api.AIrc, api.AStr}, 0}},
		{api.Auto{State: api.Opened, Id: 4}, api.ERejBad, answer{api.Auto{State: 5, Count: 1, Left: 3, Id: 5}, []int{api.ATld, api.AIrc, api.AStr}, 0}},
		{api.Auto{State: api.AckSent, Count: 1, Left: 1, Id: 7}, api.EClose, answer{api.Auto{State: 4, Count: 1, Left: 3, Id: 8}, []int{api.AIrc, api.AStr}, 0}},
		{api.Auto{State: api.Opened, Count: 4}, api.ETerm, answer{api.Auto{State: 5, Left: 3}, []int{api.ATld, api.AZrc, api.ASta}, 0}},
		{api.Auto{State: api.ReqSent, Count: 2, Left: 1, Id: 3}, api.EAck, answer{api.Auto{State: 7, Count: 5, Left: 1, Id: 3}, []int{api.AIrc}, 0}},
		{api.Auto{State: api.AckSent, Count: 2, Left: 1, Id: 3}, api.EAck, answer{api.Auto{State: 9, Count: 5, Id: 3}, []int{api.AIrc, api.ATlu}, 0}},
		{api.Auto{State: api.AckSent, Left: 2, Id: 255}, api.ENak, answer{api.Auto{State: 8, Count: 4, Left: 3}, []int{api.AIrc, api.AScr}, 0}},
		{api.Auto{State: api.AckRcvd, Left: 2, Id: 255}, api.ENak, answer{api.Auto{State: 6, Left: 3}, []int{api.AScr}, 0}},
		{api.Auto{State: api.Opened, Id: 6}, api.EReq, answer{api.Auto{State: 8, Left: 3, Id: 7}, []int{api.ATld, api.AScr, api.ASca}, 0}},
		{api.Auto{State: api.AckRcvd, Count: 3, Left: 2, Id: 6}, api.EReq, answer{api.Auto{State: 9, Count: 3, Id: 6}, []int{api.ASca, api.ATlu}, 0}},
		{api.Auto{State: api.AckRcvd, Count: 3, Left: 2, Id: 6}, api.ERej, answer{api.Auto{State: 6, Count: 3, Left: 2, Id: 6}, nil, 0}},
		{api.Auto{State: api.ReqSent, Count: 3, Left: 2, Id: 6}, api.EDown, answer{api.Auto{State: 1, Count: 3, Id: 6}, nil, 0}},
		{api.Auto{State: api.Closing, Count: 1, Left: 2, Id: 6}, api.EOpen, answer{api.Auto{State: 5, Count: 1, Left: 2, Id: 6}, nil, 0}},
		{api.Auto{State: api.Stopping, Count: 1, Left: 2, Id: 6}, api.ETermed, answer{api.Auto{State: 3, Count: 1, Id: 6}, []int{api.ATlf}, 0}},
		{api.Auto{State: api.ReqSent, Count: 0, Left: 3, Id: 6}, api.EMore, answer{api.Auto{State: 6, Left: 3, Id: 7}, []int{api.AScr}, 0}},
		{api.Auto{State: api.ReqSent, Count: 3, Left: 2, Id: 6}, api.EOver, answer{api.Auto{State: 3, Count: 3, Id: 6}, []int{api.ATlf}, 0}},
		{api.Auto{State: api.Stopped, Count: 5, Id: 6}, api.EUp, answer{api.Auto{State: 3, Count: 5, Id: 6}, nil, api.ErrArg}},
		{api.Auto{State: api.Opened, Count: 5, Id: 6}, api.EMore, answer{api.Auto{State: 9, Count: 5, Id: 6}, nil, api.ErrArg}},
	} {
		if got := done(k.a, k.event); !alike(got, k.want) {
			t.Errorf("%d: %v, not %v", i, got, k.want)
		}
	}
}

// P12.2: where there is no such event: ErrArg, the automaton as it was, and nothing.
func TestNoSuchEvent(t *testing.T) {
	for _, event := range strange() {
		for _, a := range right(77) {
			hold(t, done(a, event), answer{a, nil, api.ErrArg}, "event", a, event)
		}
	}
}

// P12.2, R1: where there is no such state no event can be either.
func TestNoSuchState(t *testing.T) {
	for _, state := range append(strange(), 10, 11, 12, 13, 14, 15) {
		for event := range api.Events {
			a := api.Auto{State: state, Count: 2, Left: 2, Id: 77}
			hold(t, done(a, event), answer{a, nil, api.ErrArg}, "event", a, event)
		}
	}
}

// P12.2: the counter doesn't go below nought, nor the request's number beyond a byte, however often a request is sent.
func TestDoWorn(t *testing.T) {
	a := api.Auto{State: api.ReqSent, Count: 4, Left: 3, Id: 1}
	for n := range 1000 {
		b := done(a, api.EMore)
		want := api.Auto{State: api.ReqSent, Count: max(3-n, 0), Left: 3, Id: byte(2 + n)}
		if b.a != want || b.e != api.OK || requests(b.actions) != 1 {
			t.Fatalf("%d: %v, not %v", n, b, want)
		}
		a = b.a
	}
}

// P12.4: what comes of all events is right, and so is what comes of those.
func TestDoRight(t *testing.T) {
	everyRight(func(a api.Auto) {
		for first := range api.Events {
			b := done(a, first)
			if !auto.Right(b.a) {
				t.Fatalf("event %d of %v: %v isn't right", first, a, b.a)
			}
			for second := range api.Events {
				if c := done(b.a, second); !auto.Right(c.a) {
					t.Fatalf("events %d and %d of %v: %v isn't right", first, second, a, c.a)
				}
			}
		}
	})
}

// P12.4: an event sends one request at most, and behind one the whole Period is waited for.
func TestOneRequest(t *testing.T) {
	everyRight(func(a api.Auto) {
		for event := range api.Events {
			b := done(a, event)
			if n := requests(b.actions); n > 1 || n == 1 && b.a.Left != 3 {
				t.Errorf("event %d of %v sends %d requests: %v", event, a, n, b)
			}
		}
	})
}
