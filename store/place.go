package store

import (
	"bytes"
	"slices"

	"portreeve/api"
)

const (
	sides       = 2 // a snapshot is laid on the one while the other still holds the last, so that a crash leaves one of them whole
	firstSnap   = sides
	firstRecord = firstSnap + sides*api.Snap
)

// sideOf is a generation's side: the number of its head, and of its snapshot.
func sideOf(gen int) int { return gen % sides }

// snapAt is the first sector of a side's snapshot.
func snapAt(side int) int { return firstSnap + side*api.Snap }

// recordAt is the sector of a record.
func recordAt(seq int) int { return firstRecord + seq }

// copied is a store in memory of its own.
func copied(s api.Store) api.Store {
	return api.Store{D: copiedDisk(s.D), Gen: s.Gen, Seq: s.Seq, B: copiedBook(s.B), Safe: copiedBook(s.Safe)}
}

// copiedDisk is a disk in memory of its own.
func copiedDisk(d api.Disk) api.Disk {
	var out api.Disk
	for _, b := range d.S {
		out.S = append(out.S, bytes.Clone(b))
	}
	for _, w := range d.W {
		out.W = append(out.W, api.Put{At: w.At, B: bytes.Clone(w.B)})
	}
	return out
}

// copiedBook is a book in memory of its own.
func copiedBook(b api.Book) api.Book {
	return api.Book{Next: b.Next, Open: slices.Clone(b.Open), Items: slices.Clone(b.Items), Locks: slices.Clone(b.Locks)}
}
