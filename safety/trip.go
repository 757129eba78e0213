package safety

import (
	"slices"

	"plantwright/api"
)

// noVote: First of a plant that is not down. It is what slices.Index tells where there is none.
const noVote = -1

// lookAtStep: what is wrong with what a step is given.
func lookAtStep(g api.Guard, t api.Trip, told []int) api.Errno {
	if f := Check(g); f.Code != api.OK {
		return f.Code
	}
	noTelling := func(n int) bool { return n != api.Calm && n != api.Demand && n != api.Mute }
	switch {
	case !mayBe(g, t):
		return api.ErrState
	case len(told) != g.Sensors:
		return api.ErrSize
	case slices.ContainsFunc(told, noTelling):
		return api.ErrRange
	}
	return api.OK
}

// mayBe: is it a trip of this guard?
func mayBe(g api.Guard, t api.Trip) bool {
	if len(t.Held) != len(g.Votes) || slices.ContainsFunc(t.Held, outside(0, mostHeld(g))) {
		return false
	}
	noFirst := outside(noVote, noVote)
	if t.Down {
		noFirst = outside(0, len(g.Votes)-1)
	}
	return !noFirst(t.First)
}

// mostHeld: a vote that was held for so many steps takes the plant down; nobody counts any further.
func mostHeld(g api.Guard) int {
	return g.Delay + 1
}

// heldNow: for how many steps each vote has held behind one more.
func heldNow(g api.Guard, held, told []int) []int {
	now := make([]int, len(held))
	for i, v := range g.Votes {
		if holds(v, told) {
			now[i] = min(held[i]+1, mostHeld(g))
		}
	}
	return now
}

// holds: do as many sensors of a vote ask for it as it needs? One that cannot be heard might have asked, so it counts.
func holds(v api.Vote, told []int) bool {
	count := 0
	for _, s := range v.Of {
		if told[s] != api.Calm {
			count++
		}
	}
	return count >= v.Need
}

// noneHolds: was no vote held in the step that is done?
func noneHolds(held []int) bool {
	return !slices.ContainsFunc(held, outside(0, 0))
}
