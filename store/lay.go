package store

import (
	"iter"

	"portreeve/api"
	"portreeve/code"
	"portreeve/disk"
)

// step is what is done to a disk at once: a crash comes ahead of it, or behind it.
type step func(api.Disk) api.Disk

// stepsOf are the steps in which a snapshot of s is laid, or why it can't be.
func stepsOf(s api.Store) ([]step, api.Errno) {
	if s.Gen >= api.MaxGen {
		return nil, api.ErrFull
	}
	snap, e := code.BookBytes(s.B)
	if e != api.OK { // only of what is no store, here and below
		return nil, e
	}
	gen := s.Gen + 1
	head, e := code.HeadBytes(gen)
	if e != api.OK {
		return nil, e
	}
	side := sideOf(gen)
	var out []step
	for i := range api.Snap {
		out = append(out, writing(snapAt(side)+i, snap[i*api.Sector:(i+1)*api.Sector]))
	}
	// The head tells of the snapshot, so it may stay only when all of that does.
	return append(out, disk.Flush, writing(side, head), disk.Flush), api.OK
}

// writing is the step of a write.
func writing(at int, b []byte) step {
	return func(d api.Disk) api.Disk {
		out, _ := disk.Write(d, at, b)
		return out
	}
}

// laying are the disk d, and the one behind each of the steps, each in memory of its own.
func laying(d api.Disk, steps []step) iter.Seq[api.Disk] {
	return func(yield func(api.Disk) bool) {
		d := copiedDisk(d)
		if !yield(d) {
			return
		}
		for _, do := range steps {
			d = do(d)
			if !yield(d) {
				return
			}
		}
	}
}
