package code

import (
	"portreeve/api"
	"portreeve/book"
)

// reader reads bytes from the first one on. What can't be read it tells by a panic, so that what is read in a row needs no error between: a literal's fields are read in the order in which they stand there.
type reader struct{ rest []byte }

// tried is what read reads of b, or why it can't: nothing, then.
func tried[T any](b []byte, read func(*reader) T) (got T, e api.Errno) {
	defer func() {
		if p := recover(); p != nil {
			e = p.(api.Errno) // a panic of another kind is a fault of the program's own, which mustn't look like one of the bytes: it goes on
		}
	}()
	return read(&reader{rest: b}), api.OK
}

// need panics, if what must hold of the bytes doesn't.
func need(ok bool) {
	if !ok {
		panic(api.ErrForm)
	}
}

func (r *reader) record() record {
	need(len(r.rest) == api.Sector)
	r.letters(recordAs)
	got := record{gen: r.small(4), seq: r.small(1), op: r.op()}
	need(got.may())
	r.end()
	return got
}

func (r *reader) head() int {
	need(len(r.rest) == api.Sector)
	r.letters(headAs)
	gen := r.small(4)
	need(isGen(gen))
	r.end()
	return gen
}

func (r *reader) book() api.Book {
	need(len(r.rest) == snapSize)
	next, open, items, locks := r.small(4), r.small(1), r.small(1), r.small(1)
	got := api.Book{Next: next, Open: many(open, r.sess), Items: many(items, r.item), Locks: many(locks, r.lock)}
	need(book.Right(got))
	r.end()
	return got
}

func (r *reader) op() api.Op {
	return api.Op{
		Kind: r.small(1), Id: r.small(4), Link: r.small(1), Addr: uint32(r.number(4)), User: r.name(),
		In: r.number(8), Out: r.number(8), Cause: r.small(1), At: r.small(4),
	}
}

func (r *reader) sess() api.Sess {
	return api.Sess{
		Id: r.small(4), Link: r.small(1), Addr: uint32(r.number(4)), User: r.name(),
		In: r.number(8), Out: r.number(8),
	}
}

func (r *reader) item() api.Item {
	return api.Item{Kind: r.small(1), Id: r.small(4), In: r.number(8), Out: r.number(8), Cause: r.small(1)}
}

func (r *reader) lock() api.Lock {
	return api.Lock{User: r.name(), N: r.small(1), At: r.small(4)}
}

// many are n things, one behind another.
func many[T any](n int, read func() T) []T {
	var out []T
	for range n {
		out = append(out, read())
	}
	return out
}

// take is the next n bytes.
func (r *reader) take(n int) []byte {
	need(n <= len(r.rest))
	got := r.rest[:n]
	r.rest = r.rest[n:]
	return got
}

// letters reads with what the bytes must begin.
func (r *reader) letters(as string) { need(string(r.take(len(as))) == as) }

// number reads a number of so many bytes.
func (r *reader) number(bytes int) uint64 {
	n := uint64(0)
	for _, x := range r.take(bytes) {
		n = n<<8 | uint64(x)
	}
	return n
}

// small reads a number of so many bytes, at most four.
func (r *reader) small(bytes int) int { return int(r.number(bytes)) }

// name reads a name: behind it stand noughts, as else two rows of bytes would tell one name.
func (r *reader) name() string {
	size := r.small(1)
	b := r.take(api.MaxUser)
	need(size <= len(b) && isNoughts(b[size:]))
	return string(b[:size])
}

// end reads what is left: noughts.
func (r *reader) end() { need(isNoughts(r.rest)) }

func isNoughts(b []byte) bool {
	for _, x := range b {
		if x != 0 {
			return false
		}
	}
	return true
}
