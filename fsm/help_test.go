package fsm_test

import (
	"math"
	"slices"
	"strconv"
	"strings"
	"testing"

	"portreeve/api"
	"portreeve/fsm"
)

// deed is what an event does in a state: actions and a next state, or nothing, where it can't be.
type deed struct {
	actions []int
	next    int
	is      bool
}

// asked is what Next answers.
func asked(state, event int) deed {
	actions, next, is := fsm.Next(state, event)
	return deed{actions, next, is}
}

// alike are deeds that are the same, as the tests see it.
func alike(a, b deed) bool {
	return slices.Equal(a.actions, b.actions) && a.next == b.next && a.is == b.is
}

// does: is an action among what is done?
func (d deed) does(action int) bool { return slices.Contains(d.actions, action) }

// tableOfRfc is the table of RFC 1661 (4.1) once more, in the RFC's notation without its marks (p, r, x): a row an event, from Up to RXR, with the states from Initial to Opened.
func tableOfRfc() []string {
	return []string{
		"2     irc,scr/6 -         -             -     -     -         -         -         -",
		"-     -         0         tls/1         0     1     1         1         1         tld/1",
		"tls/1 1         irc,scr/6 3             5     5     6         7         8         9",
		"0     tlf/0     2         2             4     4     irc,str/4 irc,str/4 irc,str/4 tld,irc,str/4",
		"-     -         -         -             str/4 str/5 scr/6     scr/6     scr/8     -",
		"-     -         -         -             tlf/2 tlf/3 tlf/3     tlf/3     tlf/3     -",
		"-     -         sta/2     irc,scr,sca/8 4     5     sca/8     sca,tlu/9 sca/8     tld,scr,sca/8",
		"-     -         sta/2     irc,scr,scn/6 4     5     scn/6     scn/7     scn/6     tld,scr,scn/6",
		"-     -         sta/2     sta/3         4     5     irc/7     scr/6     irc,tlu/9 tld,scr/6",
		"-     -         sta/2     sta/3         4     5     irc,scr/6 scr/6     irc,scr/8 tld,scr/6",
		"-     -         sta/2     sta/3         sta/4 sta/5 sta/6     sta/6     sta/6     tld,zrc,sta/5",
		"-     -         2         3             tlf/2 tlf/3 6         6         8         tld,scr/6",
		"-     -         scj/2     scj/3         scj/4 scj/5 scj/6     scj/7     scj/8     scj/9",
		"-     -         2         3             4     5     6         6         8         9",
		"-     -         tlf/2     tlf/3         tlf/2 tlf/3 tlf/3     tlf/3     tlf/3     tld,irc,str/5",
		"-     -         2         3             4     5     6         7         8         ser/9",
	}
}

// actionsOfRfc are the actions in the order of their numbers, from 1 on, as the RFC names them.
func actionsOfRfc() []string {
	return strings.Fields("tlu tld tls tlf irc zrc scr sca scn str sta scj ser")
}

// deedOf is what the RFC's text of a place in the table tells.
func deedOf(t *testing.T, state int, text string) deed {
	if text == "-" {
		return deed{nil, state, false}
	}
	var out []int
	names, number, has := strings.Cut(text, "/")
	if !has {
		names, number = "", text
	}
	for _, name := range strings.FieldsFunc(names, func(r rune) bool { return r == ',' }) {
		at := slices.Index(actionsOfRfc(), name)
		if at < 0 {
			t.Fatalf("the tests' table names %q", name)
		}
		out = append(out, at+1)
	}
	next, err := strconv.Atoi(number)
	if err != nil {
		t.Fatalf("the tests' table goes on to %q", number)
	}
	return deed{out, next, true}
}

// expected are the deeds of the RFC's table, by the event and the state.
func expected(t *testing.T) [api.Events][api.States]deed {
	var out [api.Events][api.States]deed
	for event, row := range tableOfRfc() {
		for state, text := range strings.Fields(row) {
			out[event][state] = deedOf(t, state, text)
		}
	}
	return out
}

// strange are numbers that no state has, and no event.
func strange() []int {
	out := []int{math.MinInt, math.MinInt + 1, math.MaxInt - 1, math.MaxInt, math.MinInt32, math.MaxInt32, 1 << 32, 1<<32 + 6, -1 << 32, 1 << 62}
	for n := range 300 {
		out = append(out, -1-n, api.Events+n)
	}
	return out
}
