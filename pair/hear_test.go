package pair_test

import (
	"testing"

	"plantwright/api"
)

// Promise 13.4: a later term counts, whoever is active, and however far each has come.
func TestHearLaterTerm(t *testing.T) {
	for _, s := range kinds() {
		for _, term := range []int{4, 5, 255, 256, 65536, api.MaxTerm - 1, api.MaxTerm} {
			for _, cycle := range []int{0, 8, 9, 10, api.MaxCycle} {
				b := beat(1-s.Me, term, cycle, 7)
				hears(t, s, b, follows(s, b), api.OK)
			}
		}
	}
}

func TestHearEarlierTerm(t *testing.T) {
	for _, s := range kinds() {
		for _, cycle := range []int{0, 8, 9, 10, api.MaxCycle} {
			for term := range s.Term {
				hears(t, s, beat(1-s.Me, term, cycle, 7), s, api.ErrOld)
			}
			last := with(s, func(s *api.Side) { s.Term = api.MaxTerm })
			for _, term := range []int{0, 1, 65536, api.MaxTerm - 1} {
				hears(t, last, beat(1-s.Me, term, cycle, 7), last, api.ErrOld)
			}
		}
	}
}

// In one term the active side 0 stays, the active side 1 gives way, whatever their cycles are; one that waits takes no cycle that lies behind.
func TestHearSameTerm(t *testing.T) {
	for _, term := range []int{0, 1, 3, api.MaxTerm} {
		for _, cycle := range []int{0, 1, 8, 9, 10, 65536 + 9, api.MaxCycle - 1, api.MaxCycle} {
			for _, s := range kinds() {
				s.Term = term
				b := beat(1-s.Me, term, cycle, 7)
				if s.Active && s.Me == 0 || !s.Active && cycle < 9 {
					hears(t, s, b, s, api.ErrOld)
				} else {
					hears(t, s, b, follows(s, b), api.OK)
				}
			}
		}
	}
}

// Each number of cycles, held against those beside it.
func TestHearCycles(t *testing.T) {
	for me := range 2 {
		for _, own := range []int{0, 1, 2, 255, 256, 65535, 1 << 29, api.MaxCycle - 1, api.MaxCycle} {
			s := with(waiting(me), func(s *api.Side) { s.Cycle = own })
			for _, cycle := range []int{own - 2, own - 1, own, own + 1, own + 2} {
				b := beat(1-me, 3, cycle, 7, 8)
				switch {
				case cycle < 0 || cycle > api.MaxCycle:
					hears(t, s, b, s, api.ErrRange)
				case cycle < own:
					hears(t, s, b, s, api.ErrOld)
				default:
					hears(t, s, b, follows(s, b), api.OK)
				}
			}
		}
	}
}

// What was heard is taken whole, and nobody has been silent; a beat that comes twice counts twice.
func TestHearImages(t *testing.T) {
	for _, n := range []int{0, 1, 2, 3, 60, 256, api.MaxFrame - 1, api.MaxFrame} {
		for _, s := range kinds() {
			b := beat(1-s.Me, 4, 2, many(n)...)
			hears(t, s, b, follows(s, b), api.OK)
			hears(t, with(follows(s, b), func(s *api.Side) { s.Silent = 3 }), b, follows(s, b), api.OK)
		}
	}
	for _, s := range kinds() {
		for _, image := range [][]int{nil, {}, far} {
			b := beat(1-s.Me, 4, 2, image...)
			hears(t, s, b, follows(s, b), api.OK)
		}
		for silent := range 4 {
			b := beat(1-s.Me, 3, 9)
			hears(t, api.Side{Me: s.Me, Term: 3, Cycle: 9, Silent: silent, Patience: 4}, b, api.Side{Me: s.Me, Term: 3, Cycle: 9, Patience: 4}, api.OK)
		}
	}
}

// badBeats: beats of which one number, or the list, is none, from a side in a term and a cycle.
func badBeats(from, term, cycle int) []api.Beat {
	var l []api.Beat
	for _, n := range noTerms {
		l = append(l, beat(from, n, cycle, 7))
	}
	for _, n := range noCycles {
		l = append(l, beat(from, term, n, 7))
	}
	for _, n := range tooMany {
		l = append(l, beat(from, term, cycle, make([]int, n)...))
	}
	for _, n := range noSides {
		l = append(l, beat(n, term, cycle, 7))
	}
	return l
}

// A beat that may not be ahead of one from the side itself, this ahead of one that is old; the side stays as it was.
func TestHearErrors(t *testing.T) {
	for _, s := range kinds() {
		for from := range 2 {
			for _, term := range []int{0, 3, 4, api.MaxTerm} {
				for _, b := range badBeats(from, term, 9) {
					hears(t, s, b, s, api.ErrRange)
				}
			}
		}
		for _, term := range []int{0, 2, 3, 4, api.MaxTerm} {
			for _, cycle := range []int{0, 8, 9, 10, api.MaxCycle} {
				hears(t, s, beat(s.Me, term, cycle, 7), s, api.ErrName)
				hears(t, s, beat(s.Me, term, cycle, many(api.MaxFrame)...), s, api.ErrName)
			}
		}
	}
}
