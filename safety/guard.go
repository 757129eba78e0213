package safety

import (
	"slices"

	"plantwright/api"
)

// outside: a closure that says of a number whether it is none of those from low to high.
func outside(low, high int) func(int) bool {
	return func(n int) bool { return n < low || n > high }
}

// lookAtGuard: what is wrong with a guard, its votes left aside.
func lookAtGuard(g api.Guard) api.Errno {
	noSensors, noVotes, noDelay := outside(1, api.MaxSensors), outside(1, api.MaxVotes), outside(0, api.MaxDelay)
	switch {
	case noSensors(g.Sensors) || noVotes(len(g.Votes)):
		return api.ErrSize
	case noDelay(g.Delay):
		return api.ErrRange
	}
	return api.OK
}

// lookAtVote: what is wrong with a vote of a guard that has so many sensors.
func lookAtVote(v api.Vote, sensors int) api.Errno {
	noSensor, noNeed := outside(0, sensors-1), outside(1, len(v.Of))
	switch {
	case len(v.Of) == 0:
		return api.ErrSize
	case slices.ContainsFunc(v.Of, noSensor):
		return api.ErrName
	case hasTwice(v.Of):
		return api.ErrTwice
	case noNeed(v.Need):
		return api.ErrRange
	}
	return api.OK
}

// hasTwice: is one of these sensors, all of which there are, there twice?
func hasTwice(sensors []int) bool {
	var seen [api.MaxSensors]bool
	for _, s := range sensors {
		if seen[s] {
			return true
		}
		seen[s] = true
	}
	return false
}
