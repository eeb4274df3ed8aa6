package store_test

import (
	"testing"

	"portreeve/api"
	"portreeve/store"
)

// P6.3: a snapshot is laid of each store that has a next generation, on that one's side.
func TestCheck(t *testing.T) {
	for _, x := range samples(t) {
		if x.s.Gen == 1000000000 {
			continue
		}
		want := api.Store{D: laid(t, x.s), Gen: x.s.Gen + 1, B: cloneBook(x.s.B), Safe: cloneBook(x.s.B)}
		if got, e := store.Check(x.s); e != api.OK || !alike(got, want) {
			t.Errorf("%s: %d, %+v", x.name, e, got)
		}
	}
}

// P6.3: generations go from side to side: the disk behind each, laid by hand; what stands on the other side, and the records, stay.
func TestCheckSides(t *testing.T) {
	one := did(t, store.Format(), ordinary()[:5]...)
	two := did(t, checked(t, one), ordinary()[5:]...)
	three := checked(t, two)
	four := checked(t, three)
	onTwo := sheet{}.with(0, head(t, 2)).with(1, head(t, 1)).snap(t, 18, api.Book{}).snap(t, 2, one.B).records(t, 1, ordinary()[:5]...).disk()
	onThree := sheet{}.with(0, head(t, 2)).with(1, head(t, 3)).snap(t, 18, known()).snap(t, 2, one.B).records(t, 2, ordinary()[5:]...).disk()
	onFour := sheet{}.with(0, head(t, 4)).with(1, head(t, 3)).snap(t, 18, known()).snap(t, 2, known()).records(t, 2, ordinary()[5:]...).disk()
	for i, x := range []struct {
		s    api.Store
		want api.Store
	}{
		{checked(t, one), api.Store{D: onTwo, Gen: 2, B: one.B, Safe: one.B}},
		{three, api.Store{D: onThree, Gen: 3, B: known(), Safe: known()}},
		{four, api.Store{D: onFour, Gen: 4, B: known(), Safe: known()}},
	} {
		if !alike(x.s, x.want) {
			t.Errorf("generation %d: %+v", i+2, x.s)
		}
	}
}

// P6.3: the greatest generation is the last one: it can still be laid, but no other behind it.
func TestCheckLast(t *testing.T) {
	for name, d := range map[string]api.Disk{
		"flushed": ofGen(t, 999999999, known(), pass("eve")),
		"wet":     wet(ofGen(t, 999999999, known()), 34, record(t, 999999999, 0, pass("eve"))),
	} {
		s := found(t, d)
		if n := len(store.Steps(s)); n != 20 {
			t.Errorf("%s: %d disks", name, n)
		}
		last, e := store.Check(s)
		if e != api.OK || last.Gen != 1000000000 || last.Seq != 0 || !alikeDisks(last.D, laid(t, s)) {
			t.Errorf("%s: %d, %+v", name, e, last)
		}
		more := did(t, last, fail("fay", 9))
		for _, x := range []api.Store{last, more, store.Sync(more)} {
			got, e := store.Check(x)
			if e != api.ErrFull || !alike(got, x) {
				t.Errorf("%s: %d, %+v", name, e, got)
			}
			if got := store.Steps(x); len(got) != 1 || !alikeDisks(got[0], x.D) {
				t.Errorf("%s: %d disks", name, len(got))
			}
		}
	}
}

// P6.3: the disks of the steps, each by hand: sixteen writes in order, a flush, the head, a flush.
func TestSteps(t *testing.T) {
	for _, x := range samples(t) {
		if x.s.Gen == 1000000000 {
			continue
		}
		d, gen := x.s.D, x.s.Gen+1
		want := []api.Disk{d}
		for i, b := range snapshot(t, x.s.B) {
			d = wet(d, []int{2, 18}[gen%2]+i, b)
			want = append(want, d)
		}
		d = flushed(d)
		want = append(want, d)
		d = wet(d, gen%2, head(t, gen))
		want = append(want, d, flushed(d))
		got := store.Steps(x.s)
		if len(got) != 20 || len(want) != 20 {
			t.Fatalf("%s: %d disks", x.name, len(got))
		}
		for i := range want {
			if !alikeDisks(got[i], want[i]) {
				t.Errorf("%s: step %d: %v", x.name, i, got[i])
			}
		}
		if c := checked(t, x.s); !alikeDisks(got[19], c.D) {
			t.Errorf("%s: the last step isn't Check's", x.name)
		}
	}
}
