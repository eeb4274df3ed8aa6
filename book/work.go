package book

import (
	"slices"

	"portreeve/api"
)

// work is what is done, and the book to which it is done, in memory of its own. With an error the book stays as it is.
type work struct {
	b api.Book
	o api.Op
}

// deeds are what is done, by the ops' kinds.
func (w *work) deeds() map[int]func() api.Errno {
	return map[int]func() api.Errno{
		api.OOpen:    w.begin,
		api.OInterim: w.count,
		api.OClose:   w.stop,
		api.OFail:    w.fail,
		api.OPass:    w.pass,
		api.OTrim:    w.trim,
	}
}

// begin opens a session.
func (w *work) begin() api.Errno {
	switch {
	case !isOfPool(w.o.Addr):
		return api.ErrArg
	case hasLink(w.b.Open, w.o.Link) || hasAddr(w.b.Open, w.o.Addr):
		return api.ErrBusy
	case !w.hasRoom(2) || w.b.Next >= api.MaxIds:
		return api.ErrFull
	}
	w.b.Open = append(w.b.Open, api.Sess{Id: w.b.Next, Link: w.o.Link, Addr: w.o.Addr, User: w.o.User})
	w.b.Items = append(w.b.Items, api.Item{Kind: api.IStart, Id: w.b.Next})
	w.b.Next++
	return api.OK
}

// count tells what a session has had so far.
func (w *work) count() api.Errno {
	at, e := w.counted()
	switch {
	case e != api.OK:
		return e
	case !w.hasRoom(1):
		return api.ErrFull
	}
	w.b.Open[at].In, w.b.Open[at].Out = w.o.In, w.o.Out
	w.b.Items = append(w.b.Items, api.Item{Kind: api.IInterim, Id: w.o.Id, In: w.o.In, Out: w.o.Out})
	return api.OK
}

// stop ends a session: it needs no room, as its line comes in its place.
func (w *work) stop() api.Errno {
	at, e := w.counted()
	if e != api.OK {
		return e
	}
	w.b.Open = slices.Delete(w.b.Open, at, at+1)
	w.b.Items = append(w.b.Items, api.Item{Kind: api.IStop, Id: w.o.Id, In: w.o.In, Out: w.o.Out, Cause: w.o.Cause})
	return api.OK
}

// fail counts a user's failure.
func (w *work) fail() api.Errno {
	at := placeOfUser(w.b.Locks, w.o.User)
	switch {
	case at >= 0 && w.b.Locks[at].At > w.o.At:
		return api.ErrLess
	case at >= 0:
		w.b.Locks[at].N = min(w.b.Locks[at].N, maxFails-1) + 1
		w.b.Locks[at].At = w.o.At
	case len(w.b.Locks) >= api.MaxLocks:
		return api.ErrFull
	default:
		w.b.Locks = append(w.b.Locks, api.Lock{User: w.o.User, N: 1, At: w.o.At})
	}
	return api.OK
}

// pass forgets a user's failures.
func (w *work) pass() api.Errno {
	at := placeOfUser(w.b.Locks, w.o.User)
	if at < 0 {
		return api.ErrNone
	}
	w.b.Locks = slices.Delete(w.b.Locks, at, at+1)
	return api.OK
}

// trim takes away the lines of sessions that aren't open.
func (w *work) trim() api.Errno {
	w.b.Items = slices.DeleteFunc(w.b.Items, func(l api.Item) bool { return placeOfId(w.b.Open, l.Id) < 0 })
	return api.OK
}

// hasRoom: is there room for n lines and open sessions more?
func (w *work) hasRoom(n int) bool { return len(w.b.Items)+len(w.b.Open)+n <= api.MaxItems }

// counted is where the op's session stands; an error, if there is none, or it would have less octets than it has.
func (w *work) counted() (int, api.Errno) {
	at := placeOfId(w.b.Open, w.o.Id)
	if at < 0 {
		return 0, api.ErrNone
	}
	if s := w.b.Open[at]; w.o.In < s.In || w.o.Out < s.Out {
		return 0, api.ErrLess
	}
	return at, api.OK
}
