package pack_test

import (
	"bytes"
	"testing"

	"portreeve/api"
	"portreeve/pack"
)

// cut is of bytes at most the first 1496.
func cut(b []byte) []byte {
	for len(b) > 1496 {
		b = b[:len(b)-1]
	}
	return b
}

// P9.2: the codes' edges, by hand.
func TestKnownEdges(t *testing.T) {
	for _, k := range []struct {
		proto uint16
		codes string
	}{
		{api.Lcp, "\x01\x02\x03\x04\x05\x06\x07\x08\x09\x0a\x0b"}, {api.Chap, "\x01\x02\x03\x04"}, {api.Ipcp, "\x01\x02\x03\x04\x05\x06\x07"},
		{api.Ip, ""}, {0, ""}, {1, ""}, {0x21C0, ""}, {0x23C2, ""}, {0x2180, ""}, {0xC020, ""}, {0xC022, ""}, {0xC023, ""}, {0xC222, ""}, {0xC225, ""},
		{0x8020, ""}, {0x8022, ""}, {0x8023, ""}, {0x8057, ""}, {0x80FD, ""}, {0x0023, ""}, {0x00C2, ""}, {0xFFFF, ""},
	} {
		for c := range 256 {
			if is := pack.Known(k.proto, byte(c)); is != (bytes.IndexByte([]byte(k.codes), byte(c)) >= 0) {
				t.Errorf("Known(%#x, %d) = %t", k.proto, c, is)
			}
		}
	}
}

// P9.2: all protocols, with codes that some have, and that none has.
func TestKnownAll(t *testing.T) {
	last := map[int]int{0xC021: 11, 0xC223: 4, 0x8021: 7}
	for proto := range 1 << 16 {
		for _, c := range []int{0, 1, 2, 3, 4, 5, 6, 7, 8, 9, 10, 11, 12, 13, 127, 128, 129, 254, 255} {
			if is := pack.Known(uint16(proto), byte(c)); is != (1 <= c && c <= last[proto]) {
				t.Fatalf("Known(%#x, %d) = %t", proto, c, is)
			}
		}
	}
}

// P9.3: Code-Rejects by hand.
func TestRejectKnown(t *testing.T) {
	for _, k := range []struct {
		p    api.Pkt
		id   byte
		data string
	}{
		{api.Pkt{Code: 12, Id: 7}, 5, "\x0c\x07\x00\x04"},
		{api.Pkt{}, 0, "\x00\x00\x00\x04"},
		{api.Pkt{Code: 255, Id: 255, Data: []byte{255}}, 255, "\xff\xff\x00\x05\xff"},
		{api.Pkt{Code: 7, Id: 9, Data: []byte{8, 1, 0, 4}}, 1, "\x07\x09\x00\x08\x08\x01\x00\x04"},
		{api.Pkt{Code: 14, Id: 1, Data: make([]byte, 252)}, 2, "\x0e\x01\x01\x00" + string(make([]byte, 252))},
	} {
		if r := pack.Reject(k.p, k.id); r.Code != 7 || r.Id != k.id || string(r.Data) != k.data {
			t.Errorf("%v by %d: %v", k.p, k.id, r)
		}
	}
}

// P9.3: Code-Rejects of packets of all lengths: the length that is told is the whole packet's, whatever is cut.
func TestRejectLengths(t *testing.T) {
	for n := range 1497 {
		p := api.Pkt{Code: byte(n), Id: byte(n / 3), Data: drawn(n)}
		want := api.Pkt{Code: 7, Id: byte(n * 5), Data: cut(spelt(p))}
		r := pack.Reject(p, byte(n*5))
		if !alike(r, want) {
			t.Fatalf("%d bytes: %v", n, r)
		}
		if b, e := pack.Bytes(r); e != api.OK || !bytes.Equal(b, spelt(want)) {
			t.Fatalf("%d bytes, rejected, can't be told: %d", n, e)
		}
		again, e := pack.Read(r.Data)
		if whole := n <= 1492; (e == api.OK) != whole || whole && !alike(again, p) {
			t.Fatalf("%d bytes, rejected and read: %v, %d", n, again, e)
		}
	}
}

// P9.3: Code-Rejects by all Ids, of all codes.
func TestRejectIds(t *testing.T) {
	for _, p := range packets() {
		for id := range 256 {
			p.Code += 3
			if r := pack.Reject(p, byte(id)); r.Code != 7 || r.Id != byte(id) || !bytes.Equal(r.Data, cut(spelt(p))) {
				t.Fatalf("%v by %d: %v", p, id, r)
			}
		}
	}
}

// P9.3: Protocol-Rejects by hand: the protocol is two bytes, also where one would do.
func TestRefuseKnown(t *testing.T) {
	for _, k := range []struct {
		f    api.Frame
		id   byte
		data string
	}{
		{api.Frame{Proto: 0x8057, Info: []byte{7}}, 6, "\x80\x57\x07"},
		{api.Frame{Proto: 0x80FD}, 255, "\x80\xfd"},
		{api.Frame{Proto: 1}, 0, "\x00\x01"},
		{api.Frame{Proto: 0x57, Info: []byte{0, 0}}, 1, "\x00\x57\x00\x00"},
		{api.Frame{Proto: 0xFEFF, Info: []byte("info")}, 9, "\xfe\xffinfo"},
		{api.Frame{Proto: 0xC021, Info: []byte{1, 7, 0, 4}}, 2, "\xc0\x21\x01\x07\x00\x04"},
	} {
		if r := pack.Refuse(k.f, k.id); r.Code != 8 || r.Id != k.id || string(r.Data) != k.data {
			t.Errorf("%v by %d: %v", k.f, k.id, r)
		}
	}
}

// P9.3: Protocol-Rejects of frames of all lengths: of more than 1494 bytes that they hold the last ones aren't there.
func TestRefuseLengths(t *testing.T) {
	for n := range 1501 {
		info := drawn(n)
		r := pack.Refuse(api.Frame{Proto: 0x8057, Info: info}, byte(n))
		want := api.Pkt{Code: 8, Id: byte(n), Data: append([]byte{0x80, 0x57}, info[:min(n, 1494)]...)}
		if !alike(r, want) {
			t.Fatalf("%d bytes: %v", n, r)
		}
		if b, e := pack.Bytes(r); e != api.OK || !bytes.Equal(b, spelt(want)) {
			t.Fatalf("%d bytes, refused, can't be told: %d", n, e)
		}
	}
}

// P9.3: Protocol-Rejects of all protocols, by all Ids, of whatever frames hold.
func TestRefuseAll(t *testing.T) {
	for p := range 1 << 16 {
		for _, b := range [][]byte{nil, {255, 3}} {
			want := api.Pkt{Code: 8, Id: byte(p * 3), Data: append([]byte{byte(p / 256), byte(p % 256)}, b...)}
			if r := pack.Refuse(api.Frame{Proto: uint16(p), Info: b}, byte(p*3)); !alike(r, want) {
				t.Fatalf("%#x: %v", p, r)
			}
		}
	}
	for _, b := range infos() {
		for id := range 256 {
			want := api.Pkt{Code: 8, Id: byte(id), Data: cut(append([]byte{0x80, 0x2B}, b...))}
			if r := pack.Refuse(api.Frame{Proto: 0x802B, Info: b}, byte(id)); !alike(r, want) {
				t.Fatalf("%d bytes by %d: %v", len(b), id, r)
			}
		}
	}
}
