package auto

import (
	"slices"

	"portreeve/api"
	"portreeve/fsm"
)

// work is an automaton at work, in its next state already, and the actions that it does.
type work struct {
	api.Auto
	actions []int
}

// deeds are what actions do; those that aren't here do nothing to an automaton.
func (w *work) deeds() map[int]func() {
	return map[int]func(){
		api.AIrc: w.begin,
		api.AZrc: w.zero,
		api.AScr: w.send,
		api.AStr: w.send,
	}
}

// do does the actions, in order; where nothing is waited for the timer is off.
func (w *work) do() {
	deeds := w.deeds()
	for _, action := range w.actions {
		if deed, is := deeds[action]; is {
			deed()
		}
	}
	if !fsm.Timed(w.State) {
		w.Left = 0
	}
}

// begin begins the counter: of Terminate-Requests, if one is sent, else of Configure-Requests.
func (w *work) begin() {
	w.Count = api.MaxConf
	if slices.Contains(w.actions, api.AStr) {
		w.Count = api.MaxTerm
	}
}

// zero uses the counter up, so that the next timeout is the last one.
func (w *work) zero() {
	w.Count = 0
	w.Left = api.Period
}

// send sends a request, of a number of its own.
func (w *work) send() {
	w.Count = max(w.Count-1, 0)
	w.Left = api.Period
	w.Id++
}
