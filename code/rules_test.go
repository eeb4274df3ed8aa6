package code_test

import (
	"bytes"
	"math/rand"
	"testing"

	"portreeve/api"
	"portreeve/code"
)

// someBytes are rows of bytes, such as are something's and such as are nothing's.
func someBytes(t *testing.T) [][]byte {
	out := [][]byte{nil, {}, {'R'}, {'H', 'D'}, recordOfKnown(t), spelt(t, 128, "4844 00000001"), snapOfKnown(t), make([]byte, 128), make([]byte, 2048), bytes.Repeat([]byte{255}, 2048), make([]byte, 5000)}
	for _, b := range samples() {
		snap, _ := code.BookBytes(b)
		out = append(out, snap, snap[:2047])
	}
	r := rand.New(rand.NewSource(53))
	for range 300 {
		b := make([]byte, []int{6, 55, 127, 128, 129, 2048}[r.Intn(6)])
		r.Read(b)
		copy(b, []string{"", "RE\x00\x00", "HD\x00\x00", "\x00\x00\x00\x09\x01\x02\x01"}[r.Intn(4)])
		out = append(out, b)
	}
	return out
}

// answer is all that the calls tell of bytes.
type answer struct {
	gen, seq, head int
	op             api.Op
	book           api.Book
	es             [3]api.Errno
}

func ask(b []byte) answer {
	var a answer
	a.gen, a.seq, a.op, a.es[0] = code.ReadOp(b)
	a.book, a.es[1] = code.ReadBook(b)
	a.head, a.es[2] = code.ReadHead(b)
	return a
}

func sameAnswer(a, b answer) bool {
	return a.gen == b.gen && a.seq == b.seq && a.head == b.head && a.op == b.op && a.es == b.es && alike(a.book, b.book)
}

// R1, R3, R4: what is read isn't written into, nor is the room behind it, and what was told of it stays when it is written into.
func TestReadsApart(t *testing.T) {
	for i, b := range someBytes(t) {
		whole := append(bytes.Clone(b), "room"...)
		was := bytes.Clone(whole)
		mine := whole[:len(b)]
		got, again := ask(mine), ask(bytes.Clone(b))
		if !bytes.Equal(whole, was) {
			t.Fatalf("bytes %d: written into", i)
		}
		for j := range whole {
			whole[j] = 'x'
		}
		if !sameAnswer(got, again) {
			t.Errorf("bytes %d: %+v, then %+v", i, got, again)
		}
	}
}

// R3: books that are told apart share no memory, nor does what was told change by later calls.
func TestBooksApart(t *testing.T) {
	for i, b := range samples() {
		snap, _ := code.BookBytes(b)
		one, _ := code.ReadBook(snap)
		two, _ := code.ReadBook(snap)
		one.Open = append(one.Open, api.Sess{Id: 7, User: "more"})
		one.Items = append(one.Items, api.Item{Kind: 7})
		one.Locks = append(one.Locks, api.Lock{User: "more"})
		for j := range one.Open {
			one.Open[j] = api.Sess{User: "spoilt"}
		}
		for j := range one.Items {
			one.Items[j] = api.Item{Kind: 9}
		}
		for j := range one.Locks {
			one.Locks[j] = api.Lock{User: "spoilt"}
		}
		if three, _ := code.ReadBook(snap); !alike(two, b) || !alike(three, b) {
			t.Errorf("sample %d: changed by what became of another", i)
		}
	}
}

// R3: a book that is written down isn't written into, and the bytes that were told are nobody else's.
func TestBytesApart(t *testing.T) {
	for i, b := range samples() {
		mine := clone(b)
		one, _ := code.BookBytes(mine)
		two, _ := code.BookBytes(mine)
		was := bytes.Clone(two)
		spill(one)
		if three, _ := code.BookBytes(mine); !alike(mine, b) || !bytes.Equal(two, was) || !bytes.Equal(three, was) {
			t.Errorf("sample %d: changed by what became of another's bytes", i)
		}
	}
	for gen := 1; gen < 4; gen++ {
		one, _ := code.HeadBytes(gen)
		op, _ := code.OpBytes(gen, 0, knownOp())
		wasOne, wasOp := bytes.Clone(one), bytes.Clone(op)
		two, _ := code.HeadBytes(gen)
		opTwo, _ := code.OpBytes(gen, 0, knownOp())
		spill(two)
		spill(opTwo)
		if !bytes.Equal(one, wasOne) || !bytes.Equal(op, wasOp) {
			t.Errorf("generation %d: changed by what became of another's bytes", gen)
		}
	}
}

// spill writes into all memory that bytes have, their spare room too.
func spill(b []byte) {
	b = b[:cap(b)]
	for i := range b {
		b[i] = 'x'
	}
}

// R1, R3: a book that isn't right is told so, and left as it is.
func TestWrongBooksLeft(t *testing.T) {
	for what, b := range wrongBooks() {
		was := clone(b)
		code.BookBytes(b)
		if !alike(b, was) {
			t.Errorf("%s: written into", what)
		}
	}
}
