package pack_test

import (
	"bytes"
	"math/rand"

	"portreeve/api"
)

// alike are packets that are the same, as the tests see it.
func alike(a, b api.Pkt) bool {
	return a.Code == b.Code && a.Id == b.Id && string(a.Data) == string(b.Data)
}

// nothing: is it a packet without anything, as it comes with an error?
func nothing(p api.Pkt) bool { return p.Code == 0 && p.Id == 0 && p.Data == nil }

// spelt is a packet's bytes, by the chapter's words.
func spelt(p api.Pkt) []byte {
	n := len(p.Data) + 4
	return append([]byte{p.Code, p.Id, byte(n / 256), byte(n % 256)}, p.Data...)
}

// read is what Read should tell of bytes, by the chapter's words.
func read(b []byte) (api.Pkt, api.Errno) {
	if len(b) < 4 {
		return api.Pkt{}, api.ErrForm
	}
	n := int(b[2])*256 + int(b[3])
	if n < 4 || n > len(b) || n > 1500 {
		return api.Pkt{}, api.ErrForm
	}
	return api.Pkt{Code: b[0], Id: b[1], Data: b[4:n]}, api.OK
}

// drawn are n bytes, the same in every run.
func drawn(n int) []byte {
	b := make([]byte, n)
	rand.New(rand.NewSource(int64(n))).Read(b)
	return b
}

// datas are what packets may hold: nothing, a few bytes, the edges of one byte's lengths, and as much as may be.
func datas() [][]byte {
	out := [][]byte{nil, {}, {0}, {255}, {0, 0}, {0, 4}, {1, 1, 0, 4}, {192, 33}, bytes.Repeat([]byte{255}, 1496)}
	for _, n := range []int{3, 4, 5, 12, 60, 251, 252, 253, 255, 256, 507, 508, 1020, 1491, 1492, 1493, 1494, 1495, 1496} {
		out = append(out, drawn(n))
	}
	return out
}

// packets are packets that may be, of a few codes and Ids.
func packets() []api.Pkt {
	var out []api.Pkt
	for i, b := range datas() {
		for _, code := range []byte{0, 1, 9, 128, 255} {
			out = append(out, api.Pkt{Code: code, Id: byte(i*37 + int(code)), Data: b})
		}
	}
	return append(out, api.Pkt{Code: 1, Id: 0}, api.Pkt{Code: 1, Id: 255}, api.Pkt{Code: 1, Id: 128})
}

// infos are what frames may hold: what packets may, and up to 1500 bytes.
func infos() [][]byte {
	out := datas()
	for n := 1497; n <= 1500; n++ {
		out = append(out, drawn(n))
	}
	return out
}

// known are packets with their bytes, by hand.
func known() []struct {
	p api.Pkt
	b []byte
} {
	long := drawn(1496)
	return []struct {
		p api.Pkt
		b []byte
	}{
		{api.Pkt{Code: 1, Id: 7}, []byte{1, 7, 0, 4}},
		{api.Pkt{}, []byte{0, 0, 0, 4}},
		{api.Pkt{Code: 255, Id: 254, Data: []byte{253}}, []byte{255, 254, 0, 5, 253}},
		{api.Pkt{Code: 9, Id: 200, Data: []byte{1, 2, 3}}, []byte{9, 200, 0, 7, 1, 2, 3}},
		{api.Pkt{Code: 1, Id: 1, Data: []byte{1, 4, 5, 220}}, []byte{1, 1, 0, 8, 1, 4, 5, 220}},
		{api.Pkt{Code: 7, Id: 2, Data: []byte{12, 7, 0, 4}}, []byte{7, 2, 0, 8, 12, 7, 0, 4}},
		{api.Pkt{Code: 3, Id: 4, Data: long[:251]}, append([]byte{3, 4, 0, 255}, long[:251]...)},
		{api.Pkt{Code: 3, Id: 4, Data: long[:252]}, append([]byte{3, 4, 1, 0}, long[:252]...)},
		{api.Pkt{Code: 3, Id: 4, Data: long[:253]}, append([]byte{3, 4, 1, 1}, long[:253]...)},
		{api.Pkt{Code: 3, Id: 4, Data: long[:1275]}, append([]byte{3, 4, 4, 255}, long[:1275]...)},
		{api.Pkt{Code: 3, Id: 4, Data: long[:1495]}, append([]byte{3, 4, 5, 219}, long[:1495]...)},
		{api.Pkt{Code: 3, Id: 4, Data: long}, append([]byte{3, 4, 5, 220}, long...)},
	}
}
