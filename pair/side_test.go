package pair_test

import (
	"testing"

	"plantwright/api"
	"plantwright/pair"
)

// Promise 13.1: which sides may be.
func TestSidesThatMayBe(t *testing.T) {
	isOne(t, api.Side{Patience: 1})
	isOne(t, api.Side{Patience: 1, Active: true})
	isOne(t, api.Side{Me: 1, Patience: api.MaxPatience, Active: true, Term: api.MaxTerm, Cycle: api.MaxCycle, Image: many(api.MaxFrame)})
	isOne(t, api.Side{Me: 1, Patience: api.MaxPatience, Silent: api.MaxPatience - 1, Term: api.MaxTerm, Cycle: api.MaxCycle, Image: many(api.MaxFrame)})
	for _, s := range kinds() {
		isOne(t, s)
		for _, term := range []int{0, 1, 2, 255, 256, 65536, api.MaxTerm - 1, api.MaxTerm} {
			isOne(t, with(s, func(s *api.Side) { s.Term = term }))
		}
		for _, cycle := range []int{0, 1, 255, 65536, 1 << 29, api.MaxCycle - 1, api.MaxCycle} {
			isOne(t, with(s, func(s *api.Side) { s.Cycle = cycle }))
		}
		for _, n := range []int{0, 1, 2, 60, 255, 256, 2000, api.MaxFrame - 1, api.MaxFrame} {
			isOne(t, with(s, func(s *api.Side) { s.Image = many(n) }))
		}
		isOne(t, with(s, func(s *api.Side) { s.Image = nil }))
		isOne(t, with(s, func(s *api.Side) { s.Image = []int{} }))
		isOne(t, with(s, func(s *api.Side) { s.Image = append(far, 0, 1) }))
		for patience := s.Silent + 1; patience <= api.MaxPatience; patience++ {
			isOne(t, with(s, func(s *api.Side) { s.Patience = patience }))
		}
	}
}

// Which may not: one number of each side is wrong.
func TestSidesThatMayNotBe(t *testing.T) {
	isNone(t, api.Side{})
	isNone(t, api.Side{Active: true})
	for _, s := range kinds() {
		for _, n := range noSides {
			isNone(t, with(s, func(s *api.Side) { s.Me = n }))
		}
		for _, n := range noPatiences {
			isNone(t, with(s, func(s *api.Side) { s.Patience = n }))
			isNone(t, with(s, func(s *api.Side) { s.Patience, s.Silent = n, 0 }))
		}
		for _, n := range noTerms {
			isNone(t, with(s, func(s *api.Side) { s.Term = n }))
		}
		for _, n := range noCycles {
			isNone(t, with(s, func(s *api.Side) { s.Cycle = n }))
		}
		for _, n := range tooMany {
			isNone(t, with(s, func(s *api.Side) { s.Image = make([]int, n) }))
		}
	}
}

// For how many ticks a side may have heard nothing: an active one has not waited at all.
func TestSilent(t *testing.T) {
	for _, me := range []int{0, 1} {
		for _, patience := range []int{1, 2, 3, 4, 255, 256, 257, api.MaxPatience - 1, api.MaxPatience} {
			for silent := range patience {
				s := api.Side{Me: me, Patience: patience, Silent: silent}
				isOne(t, s)
				s.Active = true
				if silent == 0 {
					isOne(t, s)
				} else {
					isNone(t, s)
				}
			}
			for _, silent := range append([]int{patience, patience + 1, patience + 256, 65536}, far...) {
				isNone(t, api.Side{Me: me, Patience: patience, Silent: silent})
				isNone(t, api.Side{Me: me, Patience: patience, Silent: silent, Active: true})
			}
		}
	}
}

// drawnStep: a step of any kind.
func drawnStep(d *die, s api.Side) (api.Side, api.Errno) {
	switch d.n(4) {
	case 0:
		return pair.Hear(s, beat(d.n(3), s.Term+d.n(3)-1, s.Cycle+d.n(3)-1, many(d.n(3))...))
	case 1:
		return pair.Done(s, many(d.n(4)+pick(d, 0, 0, 0, api.MaxFrame)))
	}
	return pair.Wait(s)
}

// What Start and the steps tell is always a side that may be, up to the last term and the last cycle.
func TestSidesAreClosed(t *testing.T) {
	d := die(2)
	for range 400 {
		s, e := pair.Start(d.n(2), 1+d.n(3), many(d.n(3)))
		if d.n(2) == 0 {
			s.Term, s.Cycle = api.MaxTerm-d.n(4), api.MaxCycle-d.n(4)
		}
		for range 50 {
			if e == api.ErrState {
				t.Fatal(brief(s), e)
			}
			if s, e = drawnStep(&d, s); e != api.ErrState {
				isOne(t, s)
			}
		}
	}
}
