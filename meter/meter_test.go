package meter_test

import (
	"math/rand"
	"slices"
	"testing"

	"portreeve/api"
	"portreeve/book"
	"portreeve/meter"
)

// P17.1: a meter is right by its Left alone, from 0 to 6, however many octets it has.
func TestRight(t *testing.T) {
	for left, want := range map[int]bool{
		-9223372036854775808: false, -4294967296: false, -6: false, -1: false, 0: true, 1: true, 2: true, 3: true, 4: true, 5: true, 6: true,
		7: false, 8: false, 256: false, 4294967296: false, 4294967302: false, 9223372036854775807: false,
	} {
		for _, n := range octets {
			for _, m := range []api.Meter{{Left: left}, {In: n, Left: left}, {Out: n, Left: left}, {In: n, Out: n, Left: left}} {
				if meter.Right(m) != want {
					t.Errorf("%+v: %t", m, !want)
				}
			}
		}
	}
}

// P17.1: a new meter has no octets, and runs, with six ticks up to its first interim.
func TestNew(t *testing.T) {
	if m := meter.New(); m != (api.Meter{In: 0, Out: 0, Left: 6}) || !meter.Right(m) {
		t.Errorf("%+v", m)
	}
}

// P17.1: octets that are counted come to their own side; the other, and Left, stay.
func TestCount(t *testing.T) {
	for _, x := range []struct {
		m       api.Meter
		in, out int
		want    api.Meter
	}{
		{api.Meter{}, 0, 0, api.Meter{}},
		{api.Meter{}, 3, 0, api.Meter{In: 3}},
		{api.Meter{}, 0, 3, api.Meter{Out: 3}},
		{api.Meter{Left: 6}, 1500, 1499, api.Meter{In: 1500, Out: 1499, Left: 6}},
		{api.Meter{In: 10, Out: 20, Left: 1}, 7, 9, api.Meter{In: 17, Out: 29, Left: 1}},
		{api.Meter{In: 10, Out: 20}, 7, 9, api.Meter{In: 17, Out: 29}},
	} {
		if got := meter.Count(x.m, x.in, x.out); got != x.want {
			t.Errorf("%+v, %d in and %d out: %+v, not %+v", x.m, x.in, x.out, got, x.want)
		}
	}
}

// P17.1: what is below 0 counts as 0, on its own side alone.
func TestCountBelowZero(t *testing.T) {
	m := api.Meter{In: 10, Out: 20, Left: 4}
	for _, n := range []int{-1, -10, -20, -21, -9223372036854775808} {
		if got := meter.Count(m, n, n); got != m {
			t.Errorf("%d: %+v", n, got)
		}
		if got := meter.Count(m, n, 5); got != (api.Meter{In: 10, Out: 25, Left: 4}) {
			t.Errorf("%d in: %+v", n, got)
		}
		if got := meter.Count(m, 5, n); got != (api.Meter{In: 15, Out: 20, Left: 4}) {
			t.Errorf("%d out: %+v", n, got)
		}
	}
}

// P17.1: no side has more than 2^64 - 1 octets: a sum that is just that is told, one beyond it is that too, and the other side doesn't care.
func TestCountAtTheMost(t *testing.T) {
	for _, x := range []struct {
		had  uint64
		n    int
		want uint64
	}{
		{most - 3, 2, most - 1}, {most - 3, 3, most}, {most - 3, 4, most}, {most - 3, 9223372036854775807, most},
		{most, 0, most}, {most, -1, most}, {most, 1, most}, {most, 9223372036854775807, most},
		{1 << 63, 9223372036854775806, most - 1}, {1 << 63, 9223372036854775807, most}, {1<<63 + 1, 9223372036854775807, most},
		{1<<63 - 1, 9223372036854775807, most - 1}, {1<<32 - 1, 1, 1 << 32},
	} {
		if got := meter.Count(api.Meter{In: x.had, Out: 5, Left: 2}, x.n, 6); got != (api.Meter{In: x.want, Out: 11, Left: 2}) {
			t.Errorf("%d and %d more came in: %+v", x.had, x.n, got)
		}
		if got := meter.Count(api.Meter{In: 5, Out: x.had, Left: 2}, 6, x.n); got != (api.Meter{In: 11, Out: x.want, Left: 2}) {
			t.Errorf("%d and %d more went out: %+v", x.had, x.n, got)
		}
	}
}

// P17.1, P17.4: all counts to all meters, as they are reckoned in whole numbers of any size; octets never go back, and what comes out is right.
func TestCountAll(t *testing.T) {
	for _, m := range rightOnes() {
		for _, in := range counts {
			for _, out := range counts {
				got, want := meter.Count(m, in, out), api.Meter{In: counted(m.In, in), Out: counted(m.Out, out), Left: m.Left}
				if got != want || got.In < m.In || got.Out < m.Out || !meter.Right(got) {
					t.Fatalf("%+v, %d in and %d out: %+v, not %+v", m, in, out, got, want)
				}
			}
		}
	}
}

// P17.2: a meter that doesn't run stays as it is, and no interim is due.
func TestTickStill(t *testing.T) {
	for _, in := range octets {
		for _, out := range octets {
			m := api.Meter{In: in, Out: out, Left: 0}
			if got, due := ticked(m, 20); len(due) > 0 || got != m {
				t.Fatalf("%+v: %+v %v", m, got, due)
			}
		}
	}
}

// P17.2: a tick of one that runs takes one of Left; of the last one an interim is due, and Left begins anew. Octets stay.
func TestTick(t *testing.T) {
	after := []int{0, 6, 1, 2, 3, 4, 5}
	for _, m := range rightOnes() {
		want := api.Meter{In: m.In, Out: m.Out, Left: after[m.Left]}
		if got, is := meter.Tick(m); is != (m.Left == 1) || got != want || !meter.Right(got) {
			t.Errorf("%+v: %+v %t", m, got, is)
		}
	}
}

// P17.2: of a new meter the sixth tick says yes, then every sixth.
func TestTicksOfNew(t *testing.T) {
	m, due := ticked(meter.New(), 26)
	if !slices.Equal(due, []int{6, 12, 18, 24}) || m != (api.Meter{Left: 4}) {
		t.Error(due, m)
	}
}

// P17.3: an interim is of that session, with the meter's octets, and has nothing that isn't of use.
func TestNote(t *testing.T) {
	for _, m := range rightOnes() {
		for _, id := range []int{0, 1, 7, 999999999, 1000000000} {
			if got := meter.Note(m, id); got != (api.Op{Kind: 2, Id: id, User: "-", In: m.In, Out: m.Out}) || !book.May(got) {
				t.Errorf("%+v, session %d: %+v", m, id, got)
			}
		}
	}
}

// P17.3: a stop likewise, with the cause.
func TestStop(t *testing.T) {
	for _, m := range rightOnes() {
		for _, id := range []int{0, 1, 7, 999999999, 1000000000} {
			for _, cause := range []int{0, 1, 2, 9, 255} {
				want := api.Op{Kind: 3, Id: id, User: "-", In: m.In, Out: m.Out, Cause: cause}
				if got := meter.Stop(m, id, cause); got != want || !book.May(got) {
					t.Errorf("%+v, session %d, cause %d: %+v", m, id, cause, got)
				}
			}
		}
	}
}

// P17.3: an interim and a stop are done to a book by the session's number, whoever's it is.
func TestOpsInABook(t *testing.T) {
	m := meter.Count(meter.New(), 30, 40)
	b := done(t, opened(t), meter.Note(m, 0))
	if want := (api.Sess{Link: 3, Addr: 167772161, User: "ann", In: 30, Out: 40}); len(b.Open) != 1 || b.Open[0] != want {
		t.Error(b.Open)
	}
	m = meter.Count(m, 1, 2)
	b = done(t, b, meter.Stop(m, 0, 1))
	want := []api.Item{{Kind: 1}, {Kind: 2, In: 30, Out: 40}, {Kind: 3, In: 31, Out: 42, Cause: 1}}
	if len(b.Open) != 0 || !slices.Equal(b.Items, want) {
		t.Errorf("%+v", b)
	}
	if _, e := book.Apply(opened(t), meter.Note(m, 1)); e != api.ErrNone {
		t.Error(e)
	}
}

// P17.4: of a meter that runs, of any six ticks one after another just one says yes, with whatever is counted between them.
func TestOneOfSix(t *testing.T) {
	r := rand.New(rand.NewSource(17))
	for left := 1; left < 7; left++ {
		m := api.Meter{Left: left}
		var due []int
		for i := 1; i <= 600; i++ {
			next, is := meter.Tick(meter.Count(m, drawnCount(r), drawnCount(r)))
			if is {
				due = append(due, i)
			}
			m = next
		}
		for i, at := range due {
			if at != left+6*i {
				t.Fatalf("Left %d: the interim %d was due at tick %d", left, i, at)
			}
		}
		if len(due) != 100 {
			t.Errorf("Left %d: %d interims", left, len(due))
		}
	}
}

// P17.1 to P17.4: on long ways, with counts and ticks as they are drawn, all is as it is by the sums and the number of ticks; octets never go back, and a book takes each interim, and the stop.
func TestLongWays(t *testing.T) {
	r := rand.New(rand.NewSource(4))
	full := 0
	for range 40 {
		m, b, ticks, due := meter.New(), opened(t), 0, 0
		var in, out uint64
		for range 300 {
			if r.Intn(3) == 0 {
				next, is := meter.Tick(m)
				ticks++
				if is {
					due++
					b = done(t, b, meter.Note(next, 0))
				}
				m = next
			} else {
				i, o := drawnCount(r), drawnCount(r)
				in, out = counted(in, i), counted(out, o)
				m = meter.Count(m, i, o)
			}
			if want := (api.Meter{In: in, Out: out, Left: 6 - ticks%6}); m != want || due != ticks/6 {
				t.Fatalf("%d ticks, %d interims: %+v, not %+v", ticks, due, m, want)
			}
		}
		if b = done(t, b, meter.Stop(m, 0, 1)); len(b.Items) != due+2 || b.Items[due+1] != (api.Item{Kind: 3, In: in, Out: out, Cause: 1}) {
			t.Fatalf("%+v", b.Items)
		}
		if in == most && out == most {
			full++
		}
	}
	if full < 20 {
		t.Errorf("only %d ways came to the most octets", full)
	}
}
