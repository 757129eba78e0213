package pair

import (
	"slices"

	"plantwright/api"
)

// leader: who is active at first, and who stays so where both sides are active in one term.
const leader = 0

// step: a side behind something that is done with it. What is done may change the side ahead of finding an error, and may lay lists into it that are not its own: with an error the side is as it was, and it never shares memory with what was handed in.
func step(s api.Side, do func(*api.Side) api.Errno) (api.Side, api.Errno) {
	if !mayBe(s) {
		return api.Side{}, api.ErrState
	}
	next := s
	e := do(&next)
	if e != api.OK {
		next = s
	}
	next.Image = slices.Clone(next.Image)
	return next, e
}

// takeOver: a side has heard nothing for too long. A term of its own lets the other one, should it come back, be told apart from it.
func takeOver(s *api.Side) api.Errno {
	if s.Term == api.MaxTerm {
		return api.ErrEnd
	}
	s.Term++
	s.Active, s.Silent = true, 0
	return api.OK
}

// lookAtStart: what is wrong with what a side begins with.
func lookAtStart(me, patience int, image []int) api.Errno {
	switch {
	case !isOfTwo(me) || !isPatience(patience):
		return api.ErrRange
	case len(image) > api.MaxFrame:
		return api.ErrSize
	}
	return api.OK
}

// lookAtBeat: why a side does not take what a beat tells.
func lookAtBeat(s api.Side, b api.Beat) api.Errno {
	switch {
	case !mayBeTold(b):
		return api.ErrRange
	case b.From == s.Me:
		return api.ErrName
	case isOld(s, b):
		return api.ErrOld
	}
	return api.OK
}

// isOld: does a beat lie behind what the side knows, or is it from one that has to give way to it?
func isOld(s api.Side, b api.Beat) bool {
	switch {
	case b.Term != s.Term:
		return b.Term < s.Term
	case s.Active:
		return s.Me == leader
	}
	return b.Cycle < s.Cycle
}

// mayBe: is it a side as the steps make them?
func mayBe(s api.Side) bool {
	if !isOfTwo(s.Me) || !isPatience(s.Patience) || !isProgress(s.Term, s.Cycle, s.Image) {
		return false
	}
	longest := s.Patience - 1
	if s.Active {
		longest = 0
	}
	return isWithin(s.Silent, 0, longest)
}

// mayBeTold: is it a beat as a side tells them?
func mayBeTold(b api.Beat) bool {
	return isOfTwo(b.From) && isProgress(b.Term, b.Cycle, b.Image)
}

// isProgress: could a side have come so far? Beats tell the same of it.
func isProgress(term, cycle int, image []int) bool {
	return isWithin(term, 0, api.MaxTerm) && isWithin(cycle, 0, api.MaxCycle) && len(image) <= api.MaxFrame
}

func isOfTwo(me int) bool {
	return isWithin(me, 0, 1)
}

func isPatience(ticks int) bool {
	return isWithin(ticks, 1, api.MaxPatience)
}

func isWithin(n, low, high int) bool {
	return n >= low && n <= high
}
