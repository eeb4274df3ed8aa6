package book

import (
	"slices"

	"portreeve/api"
)

const (
	maxCause = 255
	maxFails = 255 // failures that are counted
)

// isFrom: is n from low to high?
func isFrom(n, low, high int) bool { return low <= n && n <= high }

// isLink: is there such a link?
func isLink(link int) bool { return isFrom(link, 0, api.Links-1) }

// isUser: is it as long as a user's name?
func isUser(user string) bool { return isFrom(len(user), 1, api.MaxUser) }

// isOfPool: is it an address of the pool?
func isOfPool(addr uint32) bool { return api.Base <= addr && addr < api.Base+api.Pool }

// hasLink: does one of them have that link?
func hasLink(open []api.Sess, link int) bool {
	return slices.ContainsFunc(open, func(s api.Sess) bool { return s.Link == link })
}

// hasAddr: does one of them hold that address?
func hasAddr(open []api.Sess, addr uint32) bool {
	return slices.ContainsFunc(open, func(s api.Sess) bool { return s.Addr == addr })
}

// placeOfId is where the session of that number stands, or below 0.
func placeOfId(open []api.Sess, id int) int {
	return slices.IndexFunc(open, func(s api.Sess) bool { return s.Id == id })
}

// placeOfUser is where that user stands, or below 0.
func placeOfUser(locks []api.Lock, user string) int {
	return slices.IndexFunc(locks, func(l api.Lock) bool { return l.User == user })
}

// rightOpen: may they be open, whatever the ledger says?
func rightOpen(open []api.Sess, next int) bool {
	least := 0
	for i, s := range open {
		if !isFrom(s.Id, least, next-1) || !isLink(s.Link) || !isOfPool(s.Addr) || !isUser(s.User) {
			return false
		}
		if hasLink(open[:i], s.Link) || hasAddr(open[:i], s.Addr) {
			return false
		}
		least = s.Id + 1
	}
	return true
}

// rightLedger: may its lines be, and do they tell the same as the sessions that are open?
func rightLedger(b api.Book) bool {
	last, is := lastLines(b.Items, b.Next)
	if !is {
		return false
	}
	for _, s := range b.Open {
		l, has := last[s.Id]
		if !has || l.Kind == api.IStop || l.In != s.In || l.Out != s.Out {
			return false
		}
	}
	for id, l := range last {
		if l.Kind != api.IStop && placeOfId(b.Open, id) < 0 {
			return false
		}
	}
	return true
}

// lastLines are the last lines of all sessions that have one, by their numbers; no, if a line may not stand where it does.
func lastLines(items []api.Item, next int) (map[int]api.Item, bool) {
	last := map[int]api.Item{}
	for _, l := range items {
		was, has := last[l.Id]
		if !isFrom(l.Id, 0, next-1) || !has && !mayBegin(l) || has && !mayFollow(was, l) {
			return nil, false
		}
		last[l.Id] = l
	}
	return last, true
}

// mayBegin: may it be a session's first line?
func mayBegin(l api.Item) bool { return l == api.Item{Kind: api.IStart, Id: l.Id} }

// mayFollow: may a session's line follow that one?
func mayFollow(was, l api.Item) bool {
	if was.Kind == api.IStop || l.In < was.In || l.Out < was.Out {
		return false
	}
	switch l.Kind {
	case api.IInterim:
		return l.Cause == 0
	case api.IStop:
		return isFrom(l.Cause, 0, maxCause)
	}
	return false
}

// rightLocks: may they have failed so?
func rightLocks(locks []api.Lock) bool {
	for i, l := range locks {
		if !isUser(l.User) || !isFrom(l.N, 1, maxFails) || !isFrom(l.At, 0, api.MaxTime) {
			return false
		}
		if placeOfUser(locks[:i], l.User) >= 0 {
			return false
		}
	}
	return true
}
