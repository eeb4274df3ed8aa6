package pack_test

import (
	"bytes"
	"testing"

	"portreeve/api"
	"portreeve/pack"
)

// answers are all bytes that the package hands out of a packet, or a frame, that holds b, and of b as a packet.
func answers(b []byte) map[string][]byte {
	told, _ := pack.Bytes(api.Pkt{Code: 1, Id: 2, Data: b})
	p, _ := pack.Read(b)
	return map[string][]byte{
		"Bytes":  told,
		"Read":   p.Data,
		"Reject": pack.Reject(api.Pkt{Code: 20, Id: 3, Data: b}, 4).Data,
		"Refuse": pack.Refuse(api.Frame{Proto: 0x8057, Info: b}, 5).Data,
	}
}

// spoil writes into all memory that bytes have, their spare room too.
func spoil(b []byte) {
	b = b[:cap(b)]
	for i := range b {
		b[i] ^= 0x55
	}
}

// samples are bytes that can be read, alone and with more behind, and others.
func samples() [][]byte {
	out := infos()
	for _, p := range packets() {
		out = append(out, spelt(p), append(spelt(p), "behind"...))
	}
	return append(out, []byte{1, 1, 0, 3}, []byte{1, 1, 0, 9, 7}, make([]byte, 3000))
}

// R3: nothing is written into what is handed in, nor into the spare room behind it, and nothing that is handed out shares memory with it.
func TestLeavesItsArguments(t *testing.T) {
	for i, b := range samples() {
		whole := append(bytes.Clone(b), "room"...)
		was := bytes.Clone(whole)
		for name, got := range answers(whole[:len(b)]) {
			if !bytes.Equal(whole, was) {
				t.Fatalf("sample %d: %s wrote into what was handed in", i, name)
			}
			spoil(got)
			if !bytes.Equal(whole, was) {
				t.Fatalf("sample %d: %s shares memory with what was handed in", i, name)
			}
		}
	}
}

// R3: what is handed out stays as it is when what was handed in, or what else was handed out, is written into.
func TestKeepsNothing(t *testing.T) {
	for i, b := range samples() {
		mine := append(bytes.Clone(b), "room"...)
		got, want := answers(mine[:len(b)]), answers(b)
		spoil(mine)
		for name, x := range got {
			if !bytes.Equal(x, want[name]) {
				t.Errorf("sample %d: %s changed with what was handed in", i, name)
			}
			spoil(x)
		}
	}
}

// R3: Same writes nothing.
func TestSameLeavesItsArguments(t *testing.T) {
	for _, p := range packets() {
		mine := api.Pkt{Code: p.Code, Id: p.Id, Data: bytes.Clone(p.Data)}
		if !pack.Same(mine, mine) || !alike(mine, p) {
			t.Errorf("%d with %d bytes: not the same, or written into", p.Code, len(p.Data))
		}
	}
}

// R4: what is answered hangs on the arguments alone: asked again, with other room behind, it is the same.
func TestAgain(t *testing.T) {
	for i, b := range samples() {
		first := answers(b)
		for name, x := range answers(append(make([]byte, 0, len(b)+50), b...)) {
			if !bytes.Equal(x, first[name]) {
				t.Errorf("sample %d: %s answers otherwise when asked again", i, name)
			}
		}
	}
}

// R1: no call panics at packets and frames that are longer than they may be, and what rejects them can be told all the same.
func TestNoPanic(t *testing.T) {
	for _, n := range []int{1497, 1501, 3000, 65531, 65532, 65533, 65536, 100000} {
		b := make([]byte, n)
		for _, r := range []api.Pkt{pack.Reject(api.Pkt{Code: 20, Data: b}, 1), pack.Refuse(api.Frame{Proto: 0x8057, Info: b}, 1)} {
			if told, e := pack.Bytes(r); e != api.OK || len(told) != 1500 {
				t.Errorf("%d bytes, rejected by %d: %d bytes, %d", n, r.Code, len(told), e)
			}
		}
		pack.Read(b)
		pack.Same(api.Pkt{Data: b}, api.Pkt{})
	}
}
