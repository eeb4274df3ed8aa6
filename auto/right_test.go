package auto_test

import (
	"slices"
	"testing"

	"portreeve/api"
	"portreeve/auto"
)

// P12.1: right are just those whose state is there, with a counter up to MaxConf, and a timer up to Period where the state is timed, else none.
func TestRight(t *testing.T) {
	for state := -3; state < 14; state++ {
		for count := -3; count < 10; count++ {
			for left := -3; left < 10; left++ {
				a := api.Auto{State: state, Count: count, Left: left, Id: byte(state * count)}
				if want := slices.Contains(right(a.Id), a); auto.Right(a) != want {
					t.Errorf("Right of %v = %t", a, !want)
				}
			}
		}
	}
}

// P12.1: of the request's number all are right.
func TestRightId(t *testing.T) {
	for id := range 256 {
		if a := (api.Auto{State: api.ReqSent, Count: 4, Left: 3, Id: byte(id)}); !auto.Right(a) {
			t.Errorf("Right of %v = false", a)
		}
	}
}

// P12.1: edges by hand.
func TestRightKnown(t *testing.T) {
	for i, k := range []struct {
		a    api.Auto
		want bool
	}{
		{api.Auto{}, true},
		{api.Auto{State: api.Opened, Count: api.MaxConf}, true},
		{api.Auto{State: api.Closing, Left: 1}, true},
		{api.Auto{State: api.Closing, Count: api.MaxConf, Left: api.Period}, true},
		{api.Auto{State: api.Stopped, Left: 1}, false},
		{api.Auto{State: api.Opened, Left: 3}, false},
		{api.Auto{State: api.AckSent}, false},
		{api.Auto{State: api.Closing}, false},
		{api.Auto{State: api.AckSent, Left: 4}, false},
		{api.Auto{State: api.ReqSent, Left: -1}, false},
		{api.Auto{State: api.ReqSent, Count: 6, Left: 1}, false},
		{api.Auto{State: api.ReqSent, Count: -1, Left: 1}, false},
		{api.Auto{State: api.States}, false},
		{api.Auto{State: -1}, false},
	} {
		if auto.Right(k.a) != k.want {
			t.Errorf("%d: Right of %v = %t", i, k.a, !k.want)
		}
	}
}

// P12.1: numbers far off are wrong in each place.
func TestRightFar(t *testing.T) {
	for _, n := range strange() {
		for _, a := range []api.Auto{
			{State: n}, {State: n, Left: 1}, {Count: n}, {State: api.ReqSent, Count: n, Left: 1}, {Left: n}, {State: api.ReqSent, Left: n},
		} {
			if auto.Right(a) {
				t.Errorf("Right of %v = true", a)
			}
		}
	}
}

// P12.1: the bound is Period times (MaxConf and 1): 3 times 6.
func TestBound(t *testing.T) {
	if got := auto.Bound(); got != 18 {
		t.Errorf("Bound = %d", got)
	}
}
