package meter_test

import (
	"fmt"
	"slices"
	"testing"

	"portreeve/api"
	"portreeve/meter"
)

// answers are all that the calls tell of a meter and two numbers, as a text.
func answers(m api.Meter, a, b int) string {
	next, due := meter.Tick(m)
	return fmt.Sprintf("%t %+v %+v %+v %t %+v %+v", meter.Right(m), meter.New(), meter.Count(m, a, b), next, due, meter.Note(m, a), meter.Stop(m, a, b))
}

// R1: whatever the meter and the numbers are, no call panics; of wrong meters nothing else is promised.
func TestWrongArguments(t *testing.T) {
	for _, left := range []int{-9223372036854775808, -7, -1, 7, 4294967296, 9223372036854775807} {
		for _, n := range octets {
			for _, a := range counts {
				answers(api.Meter{In: n, Out: n, Left: left}, a, -a)
			}
		}
	}
}

// P17.3: a number of a session, or a cause, that may not be is told as it was given: it is the book that says so.
func TestWrongNumbers(t *testing.T) {
	m := api.Meter{In: 8, Out: 9, Left: 2}
	for _, id := range []int{-9223372036854775808, -1, 1000000001, 9223372036854775807} {
		if got := meter.Note(m, id); got != (api.Op{Kind: 2, Id: id, User: "-", In: 8, Out: 9}) {
			t.Errorf("%d: %+v", id, got)
		}
		if got := meter.Stop(m, id, id); got != (api.Op{Kind: 3, Id: id, User: "-", In: 8, Out: 9, Cause: id}) {
			t.Errorf("%d: %+v", id, got)
		}
	}
}

// R4: what was told is told again, in another order, and behind other calls.
func TestSameAgain(t *testing.T) {
	var first []string
	for _, m := range rightOnes() {
		for i, a := range counts {
			first = append(first, answers(m, a, counts[len(counts)-1-i]))
		}
	}
	ticked(meter.New(), 4)
	n := len(first)
	for _, m := range slices.Backward(rightOnes()) {
		for i, a := range slices.Backward(counts) {
			n--
			if got := answers(m, a, counts[len(counts)-1-i]); got != first[n] {
				t.Fatalf("%s, then %s", first[n], got)
			}
		}
	}
}
