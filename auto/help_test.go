package auto_test

import (
	"math"
	"slices"
	"testing"

	"portreeve/api"
	"portreeve/auto"
	"portreeve/fsm"
)

// answer is what Do answers.
type answer struct {
	a       api.Auto
	actions []int
	e       api.Errno
}

// done is what Do answers of an event.
func done(a api.Auto, event int) answer {
	b, actions, e := auto.Do(a, event)
	return answer{b, actions, e}
}

// ticked is what Tick answers, with OK beside it.
func ticked(a api.Auto) answer {
	b, actions := auto.Tick(a)
	return answer{b, actions, api.OK}
}

// alike are answers that are the same, as the tests see it.
func alike(x, y answer) bool {
	return x.a == y.a && slices.Equal(x.actions, y.actions) && x.e == y.e
}

// requests is how many requests actions send.
func requests(actions []int) int {
	n := 0
	for _, action := range actions {
		if action == api.AScr || action == api.AStr {
			n++
		}
	}
	return n
}

// timed are the states that have a timer, by hand.
func timed() []int {
	return []int{api.Closing, api.Stopping, api.ReqSent, api.AckRcvd, api.AckSent}
}

// untimed are those that have none.
func untimed() []int {
	return []int{api.Initial, api.Starting, api.Closed, api.Stopped, api.Opened}
}

// right are all right automata with an Id.
func right(id byte) []api.Auto {
	var out []api.Auto
	for count := range 6 {
		for _, state := range untimed() {
			out = append(out, api.Auto{State: state, Count: count, Id: id})
		}
		for _, state := range timed() {
			for left := 1; left <= 3; left++ {
				out = append(out, api.Auto{State: state, Count: count, Left: left, Id: id})
			}
		}
	}
	return out
}

// ids are numbers of requests: the edges, and one amid them.
func ids() []byte { return []byte{0, 1, 127, 200, 254, 255} }

// everyRight is what is asked of all right automata.
func everyRight(ask func(a api.Auto)) {
	for _, id := range ids() {
		for _, a := range right(id) {
			ask(a)
		}
	}
}

// wanted is what Do is to answer, told without going through the actions in order: as the table has them, the counter's beginning stands ahead of what is sent, and nothing is sent beside what uses it up.
func wanted(a api.Auto, event int) answer {
	actions, next, is := fsm.Next(a.State, event)
	if !is {
		return answer{a, nil, api.ErrArg}
	}
	sent := requests(actions)
	b := api.Auto{State: next, Count: a.Count, Left: a.Left, Id: a.Id + byte(sent)}
	switch {
	case slices.Contains(actions, api.AZrc):
		b.Count = 0
	case slices.Contains(actions, api.AIrc) && slices.Contains(actions, api.AStr):
		b.Count = 2
	case slices.Contains(actions, api.AIrc):
		b.Count = 5
	}
	if sent > 0 || slices.Contains(actions, api.AZrc) {
		b.Left = 3
	}
	if b.Count >= sent {
		b.Count -= sent
	}
	if slices.Contains(untimed(), next) {
		b.Left = 0
	}
	return answer{b, actions, api.OK}
}

// wantedTick is what Tick is to answer.
func wantedTick(a api.Auto) answer {
	switch {
	case a.Left == 0:
		return answer{a, nil, api.OK}
	case a.Left > 1:
		return answer{api.Auto{State: a.State, Count: a.Count, Left: a.Left - 1, Id: a.Id}, nil, api.OK}
	case a.Count > 0:
		return wanted(api.Auto{State: a.State, Count: a.Count, Id: a.Id}, api.EMore)
	}
	return wanted(api.Auto{State: a.State, Id: a.Id}, api.EOver)
}

// strange are numbers that are no event, no state, no counter and no timer.
func strange() []int {
	out := []int{math.MinInt, math.MinInt + 1, math.MaxInt - 1, math.MaxInt, math.MinInt32, math.MaxInt32, 1 << 32, 1<<32 + 6, -1 << 32, 1 << 62}
	for n := range 300 {
		out = append(out, -1-n, api.Events+n)
	}
	return out
}

// hold is a failure, where an answer isn't the one that is wanted.
func hold(t *testing.T, got, want answer, what string, a api.Auto, n int) {
	t.Helper()
	if !alike(got, want) {
		t.Errorf("%s %d of %v: %v, not %v", what, n, a, got, want)
	}
}
