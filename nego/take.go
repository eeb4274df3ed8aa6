package nego

import (
	"bytes"
	"slices"

	"portreeve/api"
	"portreeve/opts"
	"portreeve/pack"
	"portreeve/rules"
)

// deeds are what packets do, by their codes; those that aren't here, of codes that are known, do nothing.
func deeds() map[byte]func(*work, api.Pkt) {
	return map[byte]func(*work, api.Pkt){
		api.ConfReq:  (*work).request,
		api.ConfAck:  (*work).agree,
		api.ConfNak:  (*work).refuse,
		api.ConfRej:  (*work).refuse,
		api.TermReq:  (*work).end,
		api.TermAck:  (*work).ended,
		api.CodeRej:  (*work).codeRejected,
		api.ProtoRej: (*work).protoRejected,
		api.EchoReq:  (*work).echo,
	}
}

// take does what a packet's code asks for, where it is one of the protocol's; else it is rejected.
func (w *work) take(p api.Pkt) {
	if !pack.Known(protoOf(w.n.R), p.Code) {
		w.reply = pack.Reject(p, w.n.A.Id)
		w.do(api.ECode)
		return
	}
	if deed, is := deeds()[p.Code]; is {
		deed(w, p)
	}
}

// request answers what the peer asks for.
func (w *work) request(p api.Pkt) {
	l, err := opts.Read(p.Data)
	if err != api.OK {
		return
	}
	if w.n.A.State == api.Stopped {
		w.n.Naks = 0 // what was refused in a negotiation that is over doesn't count
	}
	code, answer := rules.Answer(w.n.R, l, w.n.Naks)
	data, _ := opts.Bytes(answer)
	w.answer(code, data)
	event := api.EReqBad
	if code == api.ConfAck {
		event = api.EReq
	}
	if answered(w.do(event)) {
		w.note(code, answer)
	}
}

// note keeps what was answered to the peer's options.
func (w *work) note(code byte, l []api.Opt) {
	switch code {
	case api.ConfAck:
		w.n.Naks, w.n.Peer = 0, l
	case api.ConfNak:
		w.n.Naks = min(w.n.Naks+1, api.MaxNak)
	}
}

// agree hears that the peer takes what we ask for.
func (w *work) agree(p api.Pkt) {
	own, err := opts.Bytes(w.n.Ours)
	if err == api.OK && p.Id == w.n.A.Id && bytes.Equal(p.Data, own) {
		w.do(api.EAck)
	}
}

// refuse hears that the peer doesn't.
func (w *work) refuse(p api.Pkt) {
	l, err := opts.Read(p.Data)
	if err != api.OK || p.Id != w.n.A.Id {
		return
	}
	ours, may := rules.Turn(w.n.R, w.n.Ours, p.Code, l)
	if !may {
		w.do(api.EClose)
		return
	}
	w.n.Ours = ours
	w.do(api.ENak)
}

// end lets the peer end it.
func (w *work) end(api.Pkt) { w.do(api.ETerm) }

// ended hears that the peer has ended it.
func (w *work) ended(api.Pkt) { w.do(api.ETermed) }

// codeRejected hears of a code that the peer hasn't; without those up to CodeRej nothing can be negotiated.
func (w *work) codeRejected(p api.Pkt) {
	w.rejected(len(p.Data) > 0 && api.ConfReq <= p.Data[0] && p.Data[0] <= api.CodeRej)
}

// protoRejected hears of a protocol that the peer hasn't; without Lcp there is no link.
func (w *work) protoRejected(p api.Pkt) {
	w.rejected(bytes.HasPrefix(p.Data, []byte{api.Lcp >> 8, api.Lcp & 0xFF}))
}

// rejected is a rejection that may be, or a bad one.
func (w *work) rejected(bad bool) {
	if bad {
		w.do(api.ERejBad)
		return
	}
	w.do(api.ERej)
}

// echo echoes, with our magic number in the place of the peer's.
func (w *work) echo(p api.Pkt) {
	if len(p.Data) < magicLength {
		return
	}
	w.answer(api.EchoReply, slices.Concat(opts.Four(Magic(w.n)), p.Data[magicLength:]))
	w.do(api.EEcho)
}

// protoOf is the protocol that a rule is of.
func protoOf(r api.Rule) uint16 {
	if r.Ip {
		return api.Ipcp
	}
	return api.Lcp
}

// answered: is a Configure-Request answered by these actions?
func answered(actions []int) bool {
	return slices.Contains(actions, api.ASca) || slices.Contains(actions, api.AScn)
}
