package chap_test

import (
	"testing"

	"portreeve/api"
	"portreeve/chap"
)

// P15.2: the chapter's example: Id 1, Code 1, 26 bytes of Data.
func TestBeginKnown(t *testing.T) {
	a, p := chap.Begin(api.Auth{}, value(1))
	holdAuth(t, "Begin of nothing", a, api.Auth{State: 1, Tries: 1, Left: 4, Id: 1, Value: value(1)})
	if p.Code != 1 || p.Id != 1 || len(p.Data) != 26 || string(p.Data) != "\x10\x01\x02\x03\x04\x05\x06\x07\x08\x09\x0a\x0b\x0c\x0d\x0e\x0f\x10portreeve" {
		t.Errorf("%s", show(p))
	}
}

// P15.2: whatever was, it is begun anew, with Id one more, which goes round behind 255, and nobody has answered.
func TestBegin(t *testing.T) {
	for id := range 256 {
		for _, was := range rightOnes(byte(id)) {
			v := value(byte(200 - id))
			a, p := chap.Begin(was, v)
			next := byte((id + 1) % 256)
			holdAuth(t, "Begin", a, api.Auth{State: 1, Tries: 1, Left: 4, Id: next, Value: v})
			holdSent(t, "Begin", []api.Pkt{p}, challenge(next, v))
		}
	}
}

// wantTick is what a tick should do to an authentication that is right: told by what comes of each, not by what is done to it.
func wantTick(a api.Auth, v [16]byte) (api.Auth, []api.Pkt) {
	switch {
	case a.State != 1:
		return a, nil
	case a.Left > 1:
		return api.Auth{State: 1, Tries: a.Tries, Left: a.Left - 1, Id: a.Id, Value: a.Value, Who: a.Who, Proof: a.Proof}, nil
	case a.Tries == 4:
		return api.Auth{State: 3, Tries: 4, Left: 0, Id: a.Id, Value: a.Value, Who: a.Who, Proof: a.Proof}, nil
	}
	next := byte((int(a.Id) + 1) % 256)
	return api.Auth{State: 1, Tries: a.Tries + 1, Left: 4, Id: next, Value: v, Who: a.Who, Proof: a.Proof}, []api.Pkt{challenge(next, v)}
}

// P15.2: a tick of all that are right, of all Ids.
func TestTick(t *testing.T) {
	for id := range 256 {
		for _, was := range rightOnes(byte(id)) {
			v := value(byte(id + 5))
			a, sent := chap.Tick(was, v)
			want, p := wantTick(was, v)
			holdAuth(t, "Tick", a, want)
			holdSent(t, "Tick", sent, p...)
			if !chap.Right(a) {
				t.Fatalf("%+v: not right", a)
			}
		}
	}
}

// P15.2: ticks by hand.
func TestTickKnown(t *testing.T) {
	old, v := value(1), value(50)
	for i, x := range []struct {
		was, want api.Auth
		sent      []api.Pkt
	}{
		{api.Auth{}, api.Auth{}, nil},
		{api.Auth{State: 2, Tries: 1, Id: 9, Value: old, Who: "ann"}, api.Auth{State: 2, Tries: 1, Id: 9, Value: old, Who: "ann"}, nil},
		{api.Auth{State: 3, Tries: 4, Id: 9, Value: old}, api.Auth{State: 3, Tries: 4, Id: 9, Value: old}, nil},
		{api.Auth{State: 1, Tries: 4, Left: 2, Id: 9, Value: old}, api.Auth{State: 1, Tries: 4, Left: 1, Id: 9, Value: old}, nil},
		{api.Auth{State: 1, Tries: 4, Left: 1, Id: 9, Value: old}, api.Auth{State: 3, Tries: 4, Left: 0, Id: 9, Value: old}, nil},
		{api.Auth{State: 1, Tries: 3, Left: 1, Id: 9, Value: old}, api.Auth{State: 1, Tries: 4, Left: 4, Id: 10, Value: v}, []api.Pkt{challenge(10, v)}},
		{api.Auth{State: 1, Tries: 1, Left: 1, Id: 255, Value: old}, api.Auth{State: 1, Tries: 2, Left: 4, Id: 0, Value: v}, []api.Pkt{challenge(0, v)}},
		{api.Auth{State: 1, Tries: 1, Left: 4, Id: 255, Value: old}, api.Auth{State: 1, Tries: 1, Left: 3, Id: 255, Value: old}, nil},
	} {
		a, sent := chap.Tick(x.was, v)
		if a != x.want || show(sent...) != show(x.sent...) {
			t.Errorf("%d: %+v, %s", i, a, show(sent...))
		}
	}
}

// P15.5: without an answer it is Refused behind 16 ticks, and not ahead; behind each four, but the last, one more challenge is sent, with that tick's value.
func TestLeftAlone(t *testing.T) {
	for _, id := range []byte{0, 7, 250, 251, 252, 253, 254, 255} {
		a, p := chap.Begin(api.Auth{Id: id}, value(0))
		sent := []api.Pkt{p}
		for tick := 1; tick <= 40; tick++ {
			if (a.State == api.Refused) != (tick > 16) || (a.State == api.Asked) != (tick <= 16) {
				t.Fatalf("ahead of tick %d: %+v", tick, a)
			}
			var more []api.Pkt
			a, more = chap.Tick(a, value(byte(tick)))
			sent = append(sent, more...)
		}
		holdSent(t, "left alone", sent, challenge(id+1, value(0)), challenge(id+2, value(4)), challenge(id+3, value(8)), challenge(id+4, value(12)))
		holdAuth(t, "left alone", a, api.Auth{State: 3, Tries: 4, Id: id + 4, Value: value(12)})
	}
}

// P15.5: whatever is Asked is Refused behind as many ticks as are left, and as the challenges that are still to be sent are waited for.
func TestLeftAmid(t *testing.T) {
	for _, a := range rightOnes(30) {
		want := 0
		if a.State == api.Asked {
			want = a.Left + 4*(4-a.Tries)
		}
		ticks := 0
		for ; a.State == api.Asked && ticks < 100; ticks++ {
			a, _ = chap.Tick(a, value(1))
		}
		if ticks != want || want > 16 || want > 0 && a.State != api.Refused {
			t.Errorf("%d ticks, not %d: %+v", ticks, want, a)
		}
	}
}
