package pair_test

import (
	"testing"

	"plantwright/api"
)

// Promise 13.3: an active side tells how far it is, the other one tells nothing.
func TestSend(t *testing.T) {
	for me := range 2 {
		sends(t, active(me), beat(me, 3, 9, 5, -6))
		sends(t, api.Side{Me: me, Active: true, Patience: 1}, beat(me, 0, 0))
		for _, n := range []int{0, 1, 60, 256, api.MaxFrame - 1, api.MaxFrame} {
			s := api.Side{Me: me, Active: true, Patience: api.MaxPatience, Term: api.MaxTerm, Cycle: api.MaxCycle, Image: many(n)}
			sends(t, s, beat(me, api.MaxTerm, api.MaxCycle, many(n)...))
		}
		unsent(t, waiting(me), api.ErrOld)
		unsent(t, api.Side{Me: me, Patience: 1}, api.ErrOld)
		unsent(t, api.Side{Me: me, Patience: 1, Term: api.MaxTerm, Cycle: api.MaxCycle, Image: many(api.MaxFrame)}, api.ErrOld)
	}
}

func TestDone(t *testing.T) {
	for me := range 2 {
		for _, n := range []int{0, 1, 2, 3, 60, 256, api.MaxFrame - 1, api.MaxFrame} {
			does(t, active(me), many(n), with(active(me), func(s *api.Side) { s.Cycle, s.Image = 10, many(n) }), api.OK)
		}
		does(t, active(me), nil, with(active(me), func(s *api.Side) { s.Cycle, s.Image = 10, nil }), api.OK)
		does(t, active(me), []int{}, with(active(me), func(s *api.Side) { s.Cycle, s.Image = 10, nil }), api.OK)
		does(t, active(me), far, with(active(me), func(s *api.Side) { s.Cycle, s.Image = 10, far }), api.OK)
		for _, cycle := range []int{0, 1, 255, 65535, api.MaxCycle - 2, api.MaxCycle - 1} {
			s := with(active(me), func(s *api.Side) { s.Cycle = cycle })
			does(t, s, []int{8}, with(s, func(s *api.Side) { s.Cycle, s.Image = cycle+1, []int{8} }), api.OK)
		}
		last := with(active(me), func(s *api.Side) { s.Term, s.Cycle, s.Patience = api.MaxTerm, 0, api.MaxPatience })
		does(t, last, []int{8}, with(last, func(s *api.Side) { s.Cycle, s.Image = 1, []int{8} }), api.OK)
	}
}

// One that is not active ahead of a list that is too long, this ahead of the end; the side stays as it was.
func TestDoneErrors(t *testing.T) {
	for me := range 2 {
		ended := with(active(me), func(s *api.Side) { s.Cycle = api.MaxCycle })
		idle := with(waiting(me), func(s *api.Side) { s.Cycle = api.MaxCycle })
		for _, image := range [][]int{nil, {}, {1}, many(api.MaxFrame)} {
			does(t, waiting(me), image, waiting(me), api.ErrOld)
			does(t, idle, image, idle, api.ErrOld)
			does(t, ended, image, ended, api.ErrEnd)
		}
		for _, n := range tooMany {
			does(t, active(me), make([]int, n), active(me), api.ErrSize)
			does(t, ended, make([]int, n), ended, api.ErrSize)
			does(t, waiting(me), make([]int, n), waiting(me), api.ErrOld)
			does(t, idle, make([]int, n), idle, api.ErrOld)
		}
	}
}
