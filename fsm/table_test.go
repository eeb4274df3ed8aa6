package fsm_test

import (
	"testing"

	"portreeve/api"
	"portreeve/fsm"
)

// P11.1: the table of RFC 1661, all of it: the actions, in order, the next state, and whether it can be.
func TestTable(t *testing.T) {
	for event, row := range expected(t) {
		for state, want := range row {
			if got := asked(state, event); !alike(got, want) {
				t.Errorf("event %d in state %d: %v, not %v", event, state, got, want)
			}
		}
	}
}

// P11.1: places of the table by hand, by the names of api; the chapter's example first.
func TestKnown(t *testing.T) {
	for i, k := range []struct {
		state, event int
		want         deed
	}{
		{api.Starting, api.EUp, deed{[]int{api.AIrc, api.AScr}, api.ReqSent, true}},
		{api.Initial, api.EOpen, deed{[]int{api.ATls}, api.Starting, true}},
		{api.Stopped, api.EDown, deed{[]int{api.ATls}, api.Starting, true}},
		{api.Starting, api.EClose, deed{[]int{api.ATlf}, api.Initial, true}},
		{api.Opened, api.EClose, deed{[]int{api.ATld, api.AIrc, api.AStr}, api.Closing, true}},
		{api.Closing, api.EMore, deed{[]int{api.AStr}, api.Closing, true}},
		{api.AckSent, api.EOver, deed{[]int{api.ATlf}, api.Stopped, true}},
		{api.AckRcvd, api.EReq, deed{[]int{api.ASca, api.ATlu}, api.Opened, true}},
		{api.Stopped, api.EReqBad, deed{[]int{api.AIrc, api.AScr, api.AScn}, api.ReqSent, true}},
		{api.AckSent, api.EAck, deed{[]int{api.AIrc, api.ATlu}, api.Opened, true}},
		{api.ReqSent, api.ENak, deed{[]int{api.AIrc, api.AScr}, api.ReqSent, true}},
		{api.Opened, api.ETerm, deed{[]int{api.ATld, api.AZrc, api.ASta}, api.Stopping, true}},
		{api.Opened, api.ETermed, deed{[]int{api.ATld, api.AScr}, api.ReqSent, true}},
		{api.AckRcvd, api.ECode, deed{[]int{api.AScj}, api.AckRcvd, true}},
		{api.AckRcvd, api.ERej, deed{nil, api.ReqSent, true}},
		{api.Opened, api.ERejBad, deed{[]int{api.ATld, api.AIrc, api.AStr}, api.Stopping, true}},
		{api.Opened, api.EEcho, deed{[]int{api.ASer}, api.Opened, true}},
		{api.Closed, api.EUp, deed{nil, api.Closed, false}},
		{api.Opened, api.EMore, deed{nil, api.Opened, false}},
		{api.Starting, api.EEcho, deed{nil, api.Starting, false}},
	} {
		if got := asked(k.state, k.event); !alike(got, k.want) {
			t.Errorf("%d: %v, not %v", i, got, k.want)
		}
	}
}

// P11.1: where there is no such state: nothing, that state, and no.
func TestNoSuchState(t *testing.T) {
	for _, state := range append(strange(), 10, 11, 12, 13, 14, 15) {
		for event := range api.Events {
			if got := asked(state, event); !alike(got, deed{nil, state, false}) {
				t.Errorf("event %d in state %d, that isn't there: %v", event, state, got)
			}
		}
	}
}

// P11.1: where there is no such event: nothing, the state, and no.
func TestNoSuchEvent(t *testing.T) {
	for _, event := range strange() {
		for state := range api.States {
			if got := asked(state, event); !alike(got, deed{nil, state, false}) {
				t.Errorf("event %d, that isn't there, in state %d: %v", event, state, got)
			}
		}
	}
}

// P11.1, R1: where there is neither such a state nor such an event: nothing, that state, and no.
func TestNeither(t *testing.T) {
	for _, state := range strange() {
		for _, event := range strange() {
			if got := asked(state, event); !alike(got, deed{nil, state, false}) {
				t.Fatalf("event %d in state %d, neither of which is there: %v", event, state, got)
			}
		}
	}
}

// R3: what is handed out is new memory: to write into it, and into the room behind it, changes no later answer.
func TestApart(t *testing.T) {
	for event, row := range expected(t) {
		for state, want := range row {
			first, second := asked(state, event), asked(state, event)
			spare := first.actions[:cap(first.actions)]
			for i := range spare {
				spare[i] = 99
			}
			if !alike(second, want) || !alike(asked(state, event), want) {
				t.Errorf("event %d in state %d: what was handed out is kept", event, state)
			}
		}
	}
}

// R4: what is answered hangs on the arguments alone: asked again, in another order, it is the same.
func TestAgain(t *testing.T) {
	all := expected(t)
	for state := api.States - 1; state >= 0; state-- {
		for event := api.Events - 1; event >= 0; event-- {
			fsm.Next(state, -1)
			if got := asked(state, event); !alike(got, all[event][state]) {
				t.Errorf("event %d in state %d answers otherwise when asked again: %v", event, state, got)
			}
		}
	}
}
