package opts_test

import (
	"testing"

	"portreeve/api"
	"portreeve/opts"
)

// firstOf is where the first option of a type stands; -1, if there is none.
func firstOf(l []api.Opt, t byte) int {
	at := -1
	for i := len(l) - 1; i >= 0; i-- {
		if l[i].Type == t {
			at = i
		}
	}
	return at
}

// someTypes are types that lists have, and others.
func someTypes() []byte { return []byte{0, 1, 2, 3, 4, 5, 6, 7, 8, 9, 77, 127, 128, 254, 255} }

// P10.2: options found by hand: the first one, whatever stands behind it.
func TestFindKnown(t *testing.T) {
	l := []api.Opt{opt(1, 5, 220), opt(5, 1, 2, 3, 4), opt(7), opt(5, 9), opt(0, 8), opt(255, 6), opt(1)}
	for _, k := range []api.Opt{opt(1, 5, 220), opt(5, 1, 2, 3, 4), opt(7), opt(0, 8), opt(255, 6)} {
		if o, is := opts.Find(l, k.Type); !is || !alikeOne(o, k) {
			t.Errorf("Find of %d = %v, %t", k.Type, o, is)
		}
	}
	for _, c := range []byte{2, 3, 4, 6, 8, 9, 128, 254} {
		if o, is := opts.Find(l, c); is || !nothing(o) {
			t.Errorf("Find of %d, that isn't there = %v, %t", c, o, is)
		}
	}
	for _, none := range [][]api.Opt{nil, {}} {
		for _, c := range someTypes() {
			if o, is := opts.Find(none, c); is || !nothing(o) {
				t.Errorf("Find of %d, in nothing = %v, %t", c, o, is)
			}
		}
	}
}

// P10.2: all types are found in all lists.
func TestFindAll(t *testing.T) {
	for i, l := range lists() {
		for c := range 256 {
			o, is := opts.Find(l, byte(c))
			at := firstOf(l, byte(c))
			if is != (at >= 0) || is && !alikeOne(o, l[at]) || !is && !nothing(o) {
				t.Fatalf("%d: Find of %d = %v, %t", i, c, o, is)
			}
		}
	}
}

// P10.2: options put by hand: in the first one's place, or behind all.
func TestPutKnown(t *testing.T) {
	for i, k := range []struct {
		l    []api.Opt
		o    api.Opt
		want []api.Opt
	}{
		{nil, opt(0), []api.Opt{opt(0)}},
		{[]api.Opt{}, opt(9, 1, 2), []api.Opt{opt(9, 1, 2)}},
		{[]api.Opt{opt(1, 1)}, opt(1, 2, 3), []api.Opt{opt(1, 2, 3)}},
		{[]api.Opt{opt(1, 1)}, opt(1), []api.Opt{opt(1)}},
		{[]api.Opt{opt(1, 1)}, opt(0, 1), []api.Opt{opt(1, 1), opt(0, 1)}},
		{[]api.Opt{opt(1, 1), opt(2, 2), opt(3, 3)}, opt(1, 9), []api.Opt{opt(1, 9), opt(2, 2), opt(3, 3)}},
		{[]api.Opt{opt(1, 1), opt(2, 2), opt(3, 3)}, opt(2, 9), []api.Opt{opt(1, 1), opt(2, 9), opt(3, 3)}},
		{[]api.Opt{opt(1, 1), opt(2, 2), opt(3, 3)}, opt(3, 9), []api.Opt{opt(1, 1), opt(2, 2), opt(3, 9)}},
		{[]api.Opt{opt(1, 1), opt(2, 2), opt(3, 3)}, opt(4, 9), []api.Opt{opt(1, 1), opt(2, 2), opt(3, 3), opt(4, 9)}},
		{[]api.Opt{opt(3, 1), opt(2, 2), opt(3, 3), opt(3, 4)}, opt(3, 9), []api.Opt{opt(3, 9), opt(2, 2), opt(3, 3), opt(3, 4)}},
		{[]api.Opt{opt(2, 1), opt(3, 1), opt(3, 1)}, opt(3, 1), []api.Opt{opt(2, 1), opt(3, 1), opt(3, 1)}},
	} {
		if got := opts.Put(k.l, k.o); !alike(got, k.want) {
			t.Errorf("%d: %v, not %v", i, got, k.want)
		}
	}
}

// P10.2, P10.4: what is put is found, and all else stays as it is.
func TestPutThenFind(t *testing.T) {
	for i, l := range lists() {
		for _, c := range someTypes() {
			for _, o := range []api.Opt{opt(c), opt(c, 0), opt(c, 200, 201), opt(c, drawn(253)...)} {
				got := opts.Put(l, o)
				if found, is := opts.Find(got, c); !is || !alikeOne(found, o) {
					t.Fatalf("%d: of %v is found %v, %t", i, o, found, is)
				}
				want := clone(l)
				if at := firstOf(l, c); at >= 0 {
					want[at] = o
				} else {
					want = append(want, o)
				}
				if !alike(got, want) {
					t.Fatalf("%d: Put of %v = %v, not %v", i, o, got, want)
				}
			}
		}
	}
}

// P10.2: options dropped by hand: all of a type, wherever they stand.
func TestDropKnown(t *testing.T) {
	l := []api.Opt{opt(1, 1), opt(1, 2), opt(2, 3), opt(1, 4), opt(0), opt(255), opt(2), opt(1)}
	for i, k := range []struct {
		l    []api.Opt
		c    byte
		want []api.Opt
	}{
		{nil, 0, nil}, {[]api.Opt{}, 1, nil}, {[]api.Opt{opt(1, 1)}, 1, nil}, {[]api.Opt{opt(1, 1), opt(1, 2), opt(1)}, 1, nil}, {[]api.Opt{opt(1, 1)}, 2, []api.Opt{opt(1, 1)}},
		{l, 1, []api.Opt{opt(2, 3), opt(0), opt(255), opt(2)}},
		{l, 2, []api.Opt{opt(1, 1), opt(1, 2), opt(1, 4), opt(0), opt(255), opt(1)}},
		{l, 0, []api.Opt{opt(1, 1), opt(1, 2), opt(2, 3), opt(1, 4), opt(255), opt(2), opt(1)}},
		{l, 255, []api.Opt{opt(1, 1), opt(1, 2), opt(2, 3), opt(1, 4), opt(0), opt(2), opt(1)}},
		{l, 3, l}, {l, 254, l},
	} {
		if got := opts.Drop(k.l, k.c); !alike(got, k.want) {
			t.Errorf("%d: %v, not %v", i, got, k.want)
		}
	}
}

// P10.2, P10.4: what is dropped isn't found, and all else stays as it is, in order.
func TestDropThenFind(t *testing.T) {
	for i, l := range lists() {
		for _, c := range someTypes() {
			got := opts.Drop(l, c)
			if o, is := opts.Find(got, c); is {
				t.Fatalf("%d: of %d, dropped, is found %v", i, c, o)
			}
			var want []api.Opt
			for _, o := range l {
				if o.Type != c {
					want = append(want, o)
				}
			}
			if !alike(got, want) {
				t.Fatalf("%d: Drop of %d = %v, not %v", i, c, got, want)
			}
		}
	}
}

// P10.2, P10.4: what was put and is dropped isn't there, and what was dropped and is put stands behind all.
func TestPutAndDrop(t *testing.T) {
	for i, l := range lists() {
		for _, c := range someTypes() {
			o := opt(c, 1, 2, 3)
			without := opts.Drop(l, c)
			if got := opts.Drop(opts.Put(l, o), c); !alike(got, without) {
				t.Fatalf("%d: put and dropped: %v, not %v", i, got, without)
			}
			if got := opts.Put(without, o); !alike(got, append(clone(without), o)) {
				t.Fatalf("%d: dropped and put: %v", i, got)
			}
			if got := opts.Put(opts.Put(l, opt(c)), o); !alike(got, opts.Put(l, o)) {
				t.Fatalf("%d: put twice: %v", i, got)
			}
		}
	}
}
