package store

import (
	"portreeve/api"
	"portreeve/book"
	"portreeve/code"
	"portreeve/disk"
)

// Where a sector can't be read (of a disk that isn't right), nothing stands there: no head, no record.

// newest is the greatest generation of a head that stands on its own side; 0, if there is none.
func newest(d api.Disk) int {
	gen := 0
	for side := range sides {
		b, _ := disk.Read(d, side)
		head, e := code.ReadHead(b)
		if e == api.OK && sideOf(head) == side {
			gen = max(gen, head)
		}
	}
	return gen
}

// snapshotOn is the book of a side's snapshot.
func snapshotOn(d api.Disk, side int) (api.Book, api.Errno) {
	var snap []byte
	for i := range api.Snap {
		b, _ := disk.Read(d, snapAt(side)+i)
		snap = append(snap, b...)
	}
	return code.ReadBook(snap)
}

// redone is the book b behind the records of a generation, and how many they are.
func redone(d api.Disk, gen int, b api.Book) (api.Book, int) {
	for seq := range api.Records {
		next, ok := redo(d, gen, seq, b)
		if !ok {
			return b, seq
		}
		b = next
	}
	return b, api.Records
}

// redo is the book b behind the record of that generation and number, if there is one, and it can be done.
func redo(d api.Disk, gen, seq int, b api.Book) (api.Book, bool) {
	record, _ := disk.Read(d, recordAt(seq))
	ofGen, ofSeq, o, e := code.ReadOp(record)
	if e != api.OK || ofGen != gen || ofSeq != seq {
		return api.Book{}, false
	}
	next, e := book.Apply(b, o)
	return next, e == api.OK
}
