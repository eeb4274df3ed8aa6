package fsm_test

import (
	"testing"

	"portreeve/api"
	"portreeve/fsm"
)

// P11.2: the states that have a timer, by hand, and none that isn't there.
func TestTimed(t *testing.T) {
	for state, want := range [api.States]bool{
		api.Closing: true, api.Stopping: true, api.ReqSent: true, api.AckRcvd: true, api.AckSent: true,
	} {
		if fsm.Timed(state) != want {
			t.Errorf("Timed of %d = %t", state, !want)
		}
	}
	for _, state := range append(strange(), 10, 11, 12, 13, 14, 15) {
		if fsm.Timed(state) {
			t.Errorf("Timed of %d, that isn't there", state)
		}
	}
}

// P11.2: the states' names, by hand, and nothing for one that isn't there.
func TestName(t *testing.T) {
	for state, want := range [api.States]string{
		api.Initial: "Initial", api.Starting: "Starting", api.Closed: "Closed", api.Stopped: "Stopped", api.Closing: "Closing",
		api.Stopping: "Stopping", api.ReqSent: "Req-Sent", api.AckRcvd: "Ack-Rcvd", api.AckSent: "Ack-Sent", api.Opened: "Opened",
	} {
		if got := fsm.Name(state); got != want {
			t.Errorf("Name of %d = %q, not %q", state, got, want)
		}
	}
	for _, state := range append(strange(), 10, 11, 12, 13, 14, 15) {
		if got := fsm.Name(state); got != "" {
			t.Errorf("Name of %d, that isn't there = %q", state, got)
		}
	}
}

// P11.3: a layer is told to be up just when Opened is come to, and down just when it is left.
func TestUpAndDown(t *testing.T) {
	for state := range api.States {
		for event := range api.Events {
			d := asked(state, event)
			comes := state != api.Opened && d.next == api.Opened
			leaves := state == api.Opened && d.next != api.Opened
			if d.does(api.ATlu) != comes || d.does(api.ATld) != leaves {
				t.Errorf("event %d in state %d: %v", event, state, d)
			}
		}
	}
}

// P11.3: what sends a request leads to a timed state.
func TestRequestIsTimed(t *testing.T) {
	for state := range api.States {
		for event := range api.Events {
			d := asked(state, event)
			if (d.does(api.AScr) || d.does(api.AStr)) && !fsm.Timed(d.next) {
				t.Errorf("event %d in state %d sends a request, and goes on to %d", event, state, d.next)
			}
		}
	}
}

// P11.3: a timeout can be just where the state is timed; as long as the counter isn't used up it sends a request.
func TestTimeout(t *testing.T) {
	for state := range api.States {
		more, over := asked(state, api.EMore), asked(state, api.EOver)
		if more.is != fsm.Timed(state) || over.is != fsm.Timed(state) {
			t.Errorf("a timeout in state %d: %v, %v", state, more, over)
		}
		if more.is && !more.does(api.AScr) && !more.does(api.AStr) {
			t.Errorf("a timeout in state %d sends no request: %v", state, more)
		}
	}
}

// P11.1: what can be goes on to a state that is there, by actions that are there.
func TestWithin(t *testing.T) {
	for state := range api.States {
		for event := range api.Events {
			d := asked(state, event)
			if d.next < api.Initial || d.next > api.Opened {
				t.Errorf("event %d in state %d goes on to %d", event, state, d.next)
			}
			for _, a := range d.actions {
				if a < api.ATlu || a > api.ASer {
					t.Errorf("event %d in state %d does %d", event, state, a)
				}
			}
		}
	}
}
