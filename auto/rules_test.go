package auto_test

import (
	"math"
	"testing"

	"portreeve/api"
	"portreeve/auto"
)

// scrawl writes into what was handed out, and into the room behind it.
func scrawl(actions []int) {
	spare := actions[:cap(actions)]
	for i := range spare {
		spare[i] = 99
	}
}

// R3: what is handed out is new memory: to write into it changes no other answer, be it earlier or later.
func TestApart(t *testing.T) {
	for _, a := range right(5) {
		for event := range api.Events {
			first, second := done(a, event), done(a, event)
			scrawl(first.actions)
			hold(t, second, wanted(a, event), "the same event", a, event)
			hold(t, done(a, event), wanted(a, event), "behind that, event", a, event)
		}
		first, second := ticked(a), ticked(a)
		scrawl(first.actions)
		hold(t, second, wantedTick(a), "the same tick", a, 1)
		hold(t, ticked(a), wantedTick(a), "behind that, tick", a, 1)
	}
}

// R4: what is answered hangs on the arguments alone: asked again, behind other calls, it is the same.
func TestAgain(t *testing.T) {
	all := right(250)
	for i := len(all) - 1; i >= 0; i-- {
		for event := api.Events - 1; event >= 0; event-- {
			done(all[(i*7+event)%len(all)], event)
			auto.Quiet(all[i], event)
			hold(t, done(all[i], event), wanted(all[i], event), "once more, event", all[i], event)
		}
		hold(t, ticked(all[i]), wantedTick(all[i]), "once more, tick", all[i], 1)
	}
}

// R1: no call panics, and each ends, of automata that aren't right too.
func TestWrong(t *testing.T) {
	numbers := []int{math.MinInt, -1, 0, 1, 3, 4, 6, 9, 10, math.MaxInt}
	for _, state := range numbers {
		for _, count := range numbers {
			for _, left := range numbers {
				a := api.Auto{State: state, Count: count, Left: left, Id: 3}
				for event := -1; event <= api.Events; event++ {
					done(a, event)
				}
				ticked(a)
				for _, ticks := range numbers {
					auto.Quiet(a, ticks)
				}
			}
		}
	}
}
