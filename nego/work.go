package nego

import (
	"bytes"
	"slices"

	"portreeve/api"
	"portreeve/auto"
	"portreeve/opts"
	"portreeve/rules"
)

// work is a protocol at work: the Id of the packet that came, the reply to it, and what is sent and told so far.
type work struct {
	n     api.Nego
	id    byte
	reply api.Pkt
	sent  []api.Pkt
	told  []int
}

// begun is work on a protocol, in memory of its own.
func begun(n api.Nego) *work {
	n.Ours, n.Peer = copied(n.Ours), copied(n.Peer)
	return &work{n: n}
}

// do does an event, with the reply as it stands, and tells its actions; nothing, where it can't be.
func (w *work) do(event int) []int {
	a, actions, err := auto.Do(w.n.A, event)
	if err != api.OK {
		return nil
	}
	w.follow(a, actions)
	return actions
}

// follow goes on with the automaton as an event left it, and does the actions of that, in order.
func (w *work) follow(a api.Auto, actions []int) {
	if w.anew(actions) {
		w.n.Ours, w.n.Naks, w.n.Peer = rules.Ask(w.n.R), 0, nil
	}
	w.n.A = a
	for _, action := range actions {
		w.act(action)
	}
}

// anew: does a negotiation begin with these actions, of the state that still stands?
func (w *work) anew(actions []int) bool {
	switch w.n.A.State {
	case api.Starting, api.Closed, api.Stopped:
		return slices.Contains(actions, api.AIrc) && slices.Contains(actions, api.AScr)
	}
	return false
}

// act does an action.
func (w *work) act(action int) {
	switch action {
	case api.AScr:
		own, _ := opts.Bytes(w.n.Ours)
		w.send(api.ConfReq, w.n.A.Id, own)
	case api.AStr:
		w.send(api.TermReq, w.n.A.Id, nil)
	case api.ASta:
		w.send(api.TermAck, w.id, nil)
	case api.ASca, api.AScn, api.AScj, api.ASer:
		w.sent = append(w.sent, w.reply)
	case api.ATlu, api.ATld, api.ATls, api.ATlf:
		w.told = append(w.told, action)
	}
}

// send sends a packet.
func (w *work) send(code, id byte, data []byte) {
	w.sent = append(w.sent, api.Pkt{Code: code, Id: id, Data: data})
}

// answer lays the reply to the packet that came.
func (w *work) answer(code byte, data []byte) {
	w.reply = api.Pkt{Code: code, Id: w.id, Data: data}
}

// copied are the same options in memory of their own.
func copied(l []api.Opt) []api.Opt {
	out := slices.Clone(l)
	for i := range out {
		out[i].Data = bytes.Clone(out[i].Data)
	}
	return out
}
