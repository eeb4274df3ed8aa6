package code

import (
	"portreeve/api"
	"portreeve/book"
)

const (
	nameSize = 1 + api.MaxUser       // bytes of a name: how long it is stands first
	snapSize = api.Snap * api.Sector // bytes of a snapshot
	recordAs = "RE"                  // with what a record begins
	headAs   = "HD"                  // with what a head begins
)

// record is what a record tells.
type record struct {
	gen, seq int
	op       api.Op
}

// may: may it be written?
func (r record) may() bool {
	return isGen(r.gen) && r.seq >= 0 && r.seq < api.Records && book.May(r.op)
}

// isGen: is there such a generation?
func isGen(gen int) bool { return gen >= 1 && gen <= api.MaxGen }

// part is what is written: a number or a name.
type part interface {
	// size is how many bytes it takes.
	size() int
}

// number is a number, and of how many bytes it is.
type number struct {
	bytes int
	value uint64
}

func (n number) size() int { return n.bytes }

// name is the bytes of a name.
type name string

func (n name) size() int { return nameSize }

// one is a number of one byte.
func one[T byte | int](n T) number { return number{bytes: 1, value: uint64(n)} }

// four is a number of four bytes.
func four[T int | uint32](n T) number { return number{bytes: 4, value: uint64(n)} }

// eight is a number of eight bytes.
func eight(n uint64) number { return number{bytes: 8, value: n} }

// laid are parts one behind another, and noughts behind them.
func laid(size int, parts []part) []byte {
	out := make([]byte, size)
	rest := out
	for _, p := range parts {
		put(rest[:p.size()], p)
		rest = rest[p.size():]
	}
	return out
}

// put writes a part into its bytes, which are noughts.
func put(into []byte, p part) {
	switch x := p.(type) {
	case number:
		for i := range into {
			into[i] = byte(x.value >> (8 * (len(into) - 1 - i)))
		}
	case name:
		into[0] = byte(len(x))
		copy(into[1:], x)
	}
}

func headParts(gen int) []part {
	return []part{one(headAs[0]), one(headAs[1]), four(gen)}
}

func (r record) parts() []part {
	o := r.op
	return []part{
		one(recordAs[0]), one(recordAs[1]), four(r.gen), one(r.seq),
		one(o.Kind), four(o.Id), one(o.Link), four(o.Addr), name(o.User), eight(o.In), eight(o.Out), one(o.Cause), four(o.At),
	}
}

func bookParts(b api.Book) []part {
	out := []part{four(b.Next), one(len(b.Open)), one(len(b.Items)), one(len(b.Locks))}
	for _, s := range b.Open {
		out = append(out, four(s.Id), one(s.Link), four(s.Addr), name(s.User), eight(s.In), eight(s.Out))
	}
	for _, l := range b.Items {
		out = append(out, one(l.Kind), four(l.Id), eight(l.In), eight(l.Out), one(l.Cause))
	}
	for _, l := range b.Locks {
		out = append(out, name(l.User), one(l.N), four(l.At))
	}
	return out
}
