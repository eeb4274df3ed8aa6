package chap_test

import (
	"bytes"
	"math/rand"
	"slices"
	"strings"
	"testing"

	"portreeve/api"
	"portreeve/chap"
)

// verdict is what Judge tells.
type verdict struct {
	who          string
	good, counts bool
}

// judged is what is judged of a packet.
func judged(a api.Auth, l []api.User, p api.Pkt) verdict {
	who, good, counts := chap.Judge(a, l, p)
	return verdict{who, good, counts}
}

// P15.3: names of 1 to 16 bytes, whatever bytes they are, whatever the Id.
func TestAnswer(t *testing.T) {
	r := rand.New(rand.NewSource(153))
	for n := range 300 {
		for _, id := range ids() {
			name := make([]byte, n)
			r.Read(name)
			v := drawnValue(r)
			who, got, is := chap.Answer(response(id, string(name), v))
			want := n >= 1 && n <= 16
			if is != want || want && (who != string(name) || got != v) || !want && (who != "" || got != [16]byte{}) {
				t.Fatalf("a name of %d bytes: %q, %x, %t", n, who, got, is)
			}
		}
	}
}

// P15.3: no other code is a response, whatever it holds.
func TestAnswerCodes(t *testing.T) {
	for code := range 256 {
		p := response(7, "ann", value(1))
		p.Code = byte(code)
		who, v, is := chap.Answer(p)
		if is != (code == 2) || !is && (who != "" || v != [16]byte{}) {
			t.Errorf("code %d: %q, %x, %t", code, who, v, is)
		}
	}
}

// P15.3: the first byte is 16.
func TestAnswerFirst(t *testing.T) {
	for first := range 256 {
		p := response(7, "ann", value(1))
		p.Data[0] = byte(first)
		who, v, is := chap.Answer(p)
		if is != (first == 16) || !is && (who != "" || v != [16]byte{}) {
			t.Errorf("first byte %d: %q, %x, %t", first, who, v, is)
		}
	}
}

// P15.3: what is too short or too long is none: of all lengths of bytes 16 just those from 18 to 33 are.
func TestAnswerLengths(t *testing.T) {
	for n := range 100 {
		who, v, is := chap.Answer(api.Pkt{Code: 2, Data: bytes.Repeat([]byte{16}, n)})
		if is != (n >= 18 && n <= 33) || is && len(who) != n-17 || !is && (who != "" || v != [16]byte{}) {
			t.Errorf("%d bytes: %q, %x, %t", n, who, v, is)
		}
	}
}

// P15.3: answers by hand, of the challenge 7 with the value 1 to 16.
func TestJudgeKnown(t *testing.T) {
	a := api.Auth{State: api.Asked, Tries: 2, Left: 3, Id: 7, Value: value(1)}
	ann, bob := digestOf(7, "one", value(1)), digestOf(7, "two", value(1))
	for i, x := range []struct {
		p    api.Pkt
		want verdict
	}{
		{response(7, "ann", ann), verdict{"ann", true, true}},
		{response(7, "bob", bob), verdict{"bob", true, true}},
		{response(7, "anna", ann), verdict{"anna", true, true}},
		{response(7, "ann", bob), verdict{"ann", false, true}},
		{response(7, "bob", ann), verdict{"bob", false, true}},
		{response(7, "eve", ann), verdict{"eve", false, true}},
		{response(7, "eve", digestOf(7, "", value(1))), verdict{"eve", false, true}},
		{response(7, "ann", digestOf(8, "one", value(1))), verdict{"ann", false, true}},
		{response(7, "ann", digestOf(7, "one", value(2))), verdict{"ann", false, true}},
		{response(7, "ann", [16]byte{}), verdict{"ann", false, true}},
		{response(8, "ann", digestOf(8, "one", value(1))), verdict{}},
		{response(6, "ann", ann), verdict{}},
		{response(7, "", ann), verdict{}},
		{response(7, strings.Repeat("a", 16), ann), verdict{strings.Repeat("a", 16), false, true}},
		{response(7, strings.Repeat("a", 17), ann), verdict{}},
		{challenge(7, value(1)), verdict{}},
		{api.Pkt{Code: 2, Id: 7}, verdict{}},
		{api.Pkt{}, verdict{}},
	} {
		if got := judged(a, few(), x.p); got != x.want {
			t.Errorf("%d: %v, not %v", i, got, x.want)
		}
	}
}

// P15.3: of all that are right, and all Ids of an answer to its value: it counts just where it is Asked, and by that Id.
func TestJudgeCounts(t *testing.T) {
	for _, own := range ids() {
		for _, a := range rightOnes(own) {
			for id := range 256 {
				p := good(a, "bob", "two")
				p.Id = byte(id)
				want := verdict{}
				if a.State == 1 && id == int(own) {
					want = verdict{"bob", true, true}
				}
				if got := judged(a, few(), p); got != want {
					t.Fatalf("%+v, Id %d: %v", a, id, got)
				}
			}
		}
	}
}

// P15.3: good is a user's alone: each of them by its own secret, none of them where it isn't among the users.
func TestJudgeUsers(t *testing.T) {
	a, _ := chap.Begin(api.Auth{Id: 9}, value(60))
	for _, who := range few() {
		for _, by := range append(few(), api.User{Name: "eve", Secret: "six"}) {
			for n := range len(few()) + 1 {
				among := slices.Contains(few()[:n], who)
				want := verdict{who.Name, among && who.Secret == by.Secret, true}
				if got := judged(a, few()[:n], good(a, who.Name, by.Secret)); got != want {
					t.Errorf("%q by the secret of %q, of %d: %v", who.Name, by.Name, n, got)
				}
			}
		}
	}
}

// P15.3: no answer whose value is another in one bit is good, but each of them counts.
func TestJudgeBits(t *testing.T) {
	a, _ := chap.Begin(api.Auth{Id: 254}, value(9))
	for bit := range 128 {
		p := good(a, "ann", "one")
		p.Data[1+bit/8] ^= 1 << (bit % 8)
		if got := judged(a, few(), p); got != (verdict{"ann", false, true}) {
			t.Errorf("bit %d: %v", bit, got)
		}
	}
}
