package chap_test

import (
	ref "crypto/md5"
	"fmt"
	"math/rand"
	"testing"

	"portreeve/api"
)

// value is what a challenge holds: sixteen bytes that count up from one.
func value(from byte) (v [16]byte) {
	for i := range v {
		v[i] = from + byte(i)
	}
	return v
}

// drawnValue is sixteen bytes that are drawn.
func drawnValue(r *rand.Rand) (v [16]byte) {
	r.Read(v[:])
	return v
}

// digestOf is a digest, by Go's own MD5, fed piece by piece.
func digestOf(id byte, secret string, value [16]byte) (d [16]byte) {
	h := ref.New()
	h.Write([]byte{id})
	h.Write([]byte(secret))
	h.Write(value[:])
	copy(d[:], h.Sum(nil))
	return d
}

// few are users of whom two have the same secret, and two have names of which one begins with the other.
func few() []api.User {
	return []api.User{{Name: "ann", Secret: "one"}, {Name: "bob", Secret: "two"}, {Name: "anna", Secret: "one"}, {Name: "\x00\xff", Secret: "\xfe"}}
}

// response is what a peer sends: a name, and what it says the digest is.
func response(id byte, name string, d [16]byte) api.Pkt {
	return api.Pkt{Code: 2, Id: id, Data: []byte("\x10" + string(d[:]) + name)}
}

// good is what a peer sends that knows the secret.
func good(a api.Auth, name, secret string) api.Pkt {
	return response(a.Id, name, digestOf(a.Id, secret, a.Value))
}

// challenge is what is sent with an Id and a value.
func challenge(id byte, value [16]byte) api.Pkt {
	return api.Pkt{Code: 1, Id: id, Data: []byte("\x10" + string(value[:]) + "portreeve")}
}

// show tells all of a packet, so that two are the same just if their texts are.
func show(p ...api.Pkt) string {
	out := fmt.Sprint(len(p))
	for _, x := range p {
		out += fmt.Sprintf(" %d/%d/%x", x.Code, x.Id, x.Data)
	}
	return out
}

// rightOnes are right authentications of all states, tries and ticks, with an Id; who has answered, and with what, is something in all of them.
func rightOnes(id byte) []api.Auth {
	var out []api.Auth
	for tries := range 5 {
		for _, state := range []int{0, 2, 3} {
			out = append(out, api.Auth{State: state, Tries: tries})
		}
		for left := 1; left < 5 && tries > 0; left++ {
			out = append(out, api.Auth{State: 1, Tries: tries, Left: left})
		}
	}
	for i := range out {
		out[i].Id, out[i].Value, out[i].Who, out[i].Proof = id, value(3), "bob", value(77)
	}
	return out
}

// ids are the edges of a byte, and one amid them.
func ids() []byte { return []byte{0, 1, 77, 254, 255} }

// holdAuth is a failure, where an authentication isn't the one that is wanted.
func holdAuth(t *testing.T, what string, got, want api.Auth) {
	t.Helper()
	if got != want {
		t.Fatalf("%s:\n%+v, not\n%+v", what, got, want)
	}
}

// holdSent is a failure, where other packets are sent than are wanted.
func holdSent(t *testing.T, what string, got []api.Pkt, want ...api.Pkt) {
	t.Helper()
	if show(got...) != show(want...) {
		t.Fatalf("%s: sent %s, not %s", what, show(got...), show(want...))
	}
}
