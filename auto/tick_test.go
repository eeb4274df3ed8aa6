package auto_test

import (
	"math"
	"slices"
	"testing"

	"portreeve/api"
	"portreeve/auto"
)

// P12.3: a tick of all right automata.
func TestTick(t *testing.T) {
	everyRight(func(a api.Auto) { hold(t, ticked(a), wantedTick(a), "tick", a, 1) })
}

// P12.3: ticks by hand: nothing, one less, a timeout with more to send, and the last one.
func TestTickKnown(t *testing.T) {
	for i, k := range []struct {
		a    api.Auto
		want answer
	}{
		{api.Auto{}, answer{api.Auto{}, nil, 0}},
		{api.Auto{State: api.Opened, Count: 5, Id: 8}, answer{api.Auto{State: 9, Count: 5, Id: 8}, nil, 0}},
		{api.Auto{State: api.ReqSent, Count: 4, Left: 3, Id: 1}, answer{api.Auto{State: 6, Count: 4, Left: 2, Id: 1}, nil, 0}},
		{api.Auto{State: api.ReqSent, Count: 4, Left: 2, Id: 1}, answer{api.Auto{State: 6, Count: 4, Left: 1, Id: 1}, nil, 0}},
		{api.Auto{State: api.ReqSent, Count: 4, Left: 1, Id: 1}, answer{api.Auto{State: 6, Count: 3, Left: 3, Id: 2}, []int{api.AScr}, 0}},
		{api.Auto{State: api.AckRcvd, Count: 1, Left: 1, Id: 255}, answer{api.Auto{State: 6, Left: 3}, []int{api.AScr}, 0}},
		{api.Auto{State: api.AckSent, Count: 5, Left: 1}, answer{api.Auto{State: 8, Count: 4, Left: 3, Id: 1}, []int{api.AScr}, 0}},
		{api.Auto{State: api.Closing, Count: 1, Left: 1}, answer{api.Auto{State: 4, Left: 3, Id: 1}, []int{api.AStr}, 0}},
		{api.Auto{State: api.Stopping, Count: 2, Left: 1}, answer{api.Auto{State: 5, Count: 1, Left: 3, Id: 1}, []int{api.AStr}, 0}},
		{api.Auto{State: api.Closing, Left: 1, Id: 5}, answer{api.Auto{State: 2, Id: 5}, []int{api.ATlf}, 0}},
		{api.Auto{State: api.Stopping, Left: 1, Id: 5}, answer{api.Auto{State: 3, Id: 5}, []int{api.ATlf}, 0}},
		{api.Auto{State: api.ReqSent, Left: 1, Id: 5}, answer{api.Auto{State: 3, Id: 5}, []int{api.ATlf}, 0}},
		{api.Auto{State: api.AckSent, Left: 2, Id: 5}, answer{api.Auto{State: 8, Left: 1, Id: 5}, nil, 0}},
	} {
		if got := ticked(k.a); !alike(got, k.want) {
			t.Errorf("%d: %v, not %v", i, got, k.want)
		}
	}
}

// P12.3: Quiet is so many ticks.
func TestQuiet(t *testing.T) {
	everyRight(func(a api.Auto) {
		want := a
		for ticks := range 60 {
			if got := auto.Quiet(a, ticks); got != want {
				t.Errorf("%v behind %d ticks: %v, not %v", a, ticks, got, want)
			}
			want = wantedTick(want).a
		}
	})
}

// P12.3: of ticks below nought there are none.
func TestQuietBelow(t *testing.T) {
	for _, ticks := range []int{-1, -2, -18, -19, math.MinInt32, math.MinInt + 1, math.MinInt} {
		everyRight(func(a api.Auto) {
			if got := auto.Quiet(a, ticks); got != a {
				t.Errorf("%v behind %d ticks: %v", a, ticks, got)
			}
		})
	}
}

// P12.3, P12.4, R1: Quiet ends, of however many ticks: behind the bound nothing changes any more.
func TestQuietMany(t *testing.T) {
	for _, ticks := range []int{18, 19, 1000, math.MaxInt32, 1 << 32, math.MaxInt - 1, math.MaxInt} {
		everyRight(func(a api.Auto) {
			if got := auto.Quiet(a, ticks); got != auto.Quiet(a, auto.Bound()) {
				t.Errorf("%v behind %d ticks: %v", a, ticks, got)
			}
		})
	}
}

// P12.3: Quiet by hand: a request behind each Period, and the end.
func TestQuietKnown(t *testing.T) {
	begun := api.Auto{State: api.ReqSent, Count: 4, Left: 3, Id: 1}
	for _, k := range []struct {
		ticks int
		want  api.Auto
	}{
		{0, begun},
		{2, api.Auto{State: api.ReqSent, Count: 4, Left: 1, Id: 1}},
		{3, api.Auto{State: api.ReqSent, Count: 3, Left: 3, Id: 2}},
		{12, api.Auto{State: api.ReqSent, Left: 3, Id: 5}},
		{14, api.Auto{State: api.ReqSent, Left: 1, Id: 5}},
		{15, api.Auto{State: api.Stopped, Id: 5}},
		{16, api.Auto{State: api.Stopped, Id: 5}},
	} {
		if got := auto.Quiet(begun, k.ticks); got != k.want {
			t.Errorf("behind %d ticks: %v, not %v", k.ticks, got, k.want)
		}
	}
}

// P12.4: left alone, an automaton is in a state that isn't timed behind Bound() ticks, and then nothing changes any more.
func TestEnds(t *testing.T) {
	everyRight(func(a api.Auto) {
		end := auto.Quiet(a, auto.Bound())
		if slices.Contains(timed(), end.State) || !auto.Right(end) {
			t.Errorf("%v comes to %v", a, end)
		}
		if got := ticked(end); !alike(got, answer{end, nil, api.OK}) {
			t.Errorf("%v goes on behind %v: %v", a, end, got)
		}
	})
}

// P12.4: no smaller bound would do: one that has all its requests ahead of it needs them all.
func TestBoundIsNeeded(t *testing.T) {
	a := done(api.Auto{State: api.ReqSent, Count: 4, Left: 3, Id: 1}, api.EAck).a
	if got := auto.Quiet(a, auto.Bound()-1); got != (api.Auto{State: api.ReqSent, Left: 1, Id: 6}) {
		t.Errorf("a tick ahead of the bound: %v", got)
	}
	if got := auto.Quiet(a, auto.Bound()); got != (api.Auto{State: api.Stopped, Id: 6}) {
		t.Errorf("at the bound: %v", got)
	}
}

// P12.4: what comes of ticks is right.
func TestTickRight(t *testing.T) {
	everyRight(func(a api.Auto) {
		b := a
		for tick := range 20 {
			if b = ticked(b).a; !auto.Right(b) || !auto.Right(auto.Quiet(a, tick)) {
				t.Fatalf("tick %d of %v: %v isn't right", tick, a, b)
			}
		}
	})
}

// P12.4: between two requests there is a timeout: left alone, requests are a whole Period of ticks apart, with numbers that follow one another.
func TestBetweenRequests(t *testing.T) {
	everyRight(func(a api.Auto) {
		b, last := a, -api.Period
		for tick := range 40 {
			c := ticked(b)
			switch n := requests(c.actions); {
			case n == 0 && c.a.Id != b.Id:
				t.Errorf("tick %d of %v: another number, and no request", tick, a)
			case n > 1 || n == 1 && (tick-last < api.Period || b.Left != 1 || c.a.Id != b.Id+1):
				t.Errorf("tick %d of %v: %d requests, the last one at %d: %v", tick, a, n, last, c)
			case n == 1:
				last = tick
			}
			b = c.a
		}
	})
}
