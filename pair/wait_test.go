package pair_test

import (
	"testing"

	"plantwright/api"
	"plantwright/pair"
)

// Promise 13.5: nothing changes of an active side, even in the last term.
func TestWaitActive(t *testing.T) {
	for me := range 2 {
		waits(t, active(me), active(me), api.OK)
		for _, patience := range []int{1, 2, api.MaxPatience} {
			for _, term := range []int{0, 1, api.MaxTerm - 1, api.MaxTerm} {
				s := with(active(me), func(s *api.Side) { s.Patience, s.Term, s.Cycle = patience, term, api.MaxCycle })
				waits(t, s, s, api.OK)
			}
		}
	}
}

// Every side that waits does so for as many ticks as its patience lasts, and takes over in the last one.
func TestWaitTicks(t *testing.T) {
	for patience := 1; patience <= api.MaxPatience; patience++ {
		me := patience % 2
		s := api.Side{Me: me, Term: 7, Cycle: 11, Image: []int{4}, Patience: patience}
		for silent := 1; silent < patience; silent++ {
			next, e := pair.Wait(s)
			if s.Silent = silent; e != api.OK || !alike(next, s) {
				t.Fatalf("%v, %v, not %v", next, e, s)
			}
		}
		taken := api.Side{Me: me, Active: true, Term: 8, Cycle: 11, Image: []int{4}, Patience: patience}
		waits(t, s, taken, api.OK)
		waits(t, taken, taken, api.OK)
	}
}

func TestWaitTakesOver(t *testing.T) {
	for me := range 2 {
		for _, patience := range []int{1, 2, 3, 256, api.MaxPatience} {
			for _, term := range []int{0, 1, 255, 65535, api.MaxTerm - 2, api.MaxTerm - 1} {
				for _, n := range []int{0, 2, api.MaxFrame} {
					s := api.Side{Me: me, Term: term, Cycle: api.MaxCycle, Image: many(n), Silent: patience - 1, Patience: patience}
					waits(t, s, api.Side{Me: me, Active: true, Term: term + 1, Cycle: api.MaxCycle, Image: many(n), Patience: patience}, api.OK)
				}
			}
		}
	}
}

// Behind the last term there is none: the side is as it was, and so it goes on. Up to there it waits as in any other.
func TestWaitEnd(t *testing.T) {
	for me := range 2 {
		for _, patience := range []int{1, 2, 3, 256, api.MaxPatience} {
			for silent := range patience - 1 {
				s := api.Side{Me: me, Term: api.MaxTerm, Cycle: 5, Image: []int{6}, Silent: silent, Patience: patience}
				waits(t, s, with(s, func(s *api.Side) { s.Silent++ }), api.OK)
			}
			s := api.Side{Me: me, Term: api.MaxTerm, Cycle: 5, Image: []int{6}, Silent: patience - 1, Patience: patience}
			waits(t, s, s, api.ErrEnd)
			b := beat(1-me, api.MaxTerm, 6, 7)
			hears(t, s, b, follows(s, b), api.OK)
		}
	}
}
