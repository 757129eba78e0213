package safety_test

import (
	"testing"

	"plantwright/api"
)

// calm: what is told where all sensors are.
func calm(g api.Guard) []int {
	return make([]int, g.Sensors)
}

// isNone: does Step tell ErrState, whatever is told?
func isNone(t *testing.T, g api.Guard, trip api.Trip) {
	t.Helper()
	for _, told := range [][]int{calm(g), nil, append(calm(g), 0), append(calm(g)[1:], 3), {9}} {
		unstepped(t, g, trip, told, api.ErrState)
		unstepped(t, g, turned(trip), told, api.ErrState)
	}
}

// isOne: does Step take it for a trip of the guard? Behind a step in which all is calm no vote holds.
func isOne(t *testing.T, g api.Guard, trip api.Trip) {
	t.Helper()
	want := trip
	want.Held = make([]int, len(trip.Held))
	steps(t, g, trip, calm(g), false, want)
	steps(t, g, turned(trip), calm(g), false, want)
	steps(t, g, turned(trip), calm(g), true, turned(want))
}

func TestTripHeldCount(t *testing.T) {
	for votes := 1; votes <= api.MaxVotes; votes++ {
		g := each(votes, 3)
		for n := range api.MaxVotes + 3 {
			if n == votes {
				isOne(t, g, up(make([]int, n)...))
				isOne(t, g, down(0, make([]int, n)...))
			} else {
				isNone(t, g, up(make([]int, n)...))
				isNone(t, g, down(0, make([]int, n)...))
			}
		}
		isNone(t, g, up())
		isNone(t, g, up(make([]int, 1<<20)...))
	}
}

func TestTripHeldRange(t *testing.T) {
	for _, delay := range []int{0, 1, 2, 254, 255, 999, 1000} {
		g := each(3, delay)
		for place := range 3 {
			for _, n := range []int{0, 1, delay, delay + 1} {
				held := []int{0, 0, 0}
				held[place] = n
				isOne(t, g, up(held...))
				isOne(t, g, down(2, held...))
			}
			for _, n := range farther(0, delay+1, delay+2, delay+3, 1002) {
				held := []int{1, 1, 1}
				held[place] = n
				isNone(t, g, up(held...))
				isNone(t, g, down(place, held...))
			}
		}
	}
}

func TestTripFirst(t *testing.T) {
	for _, votes := range []int{1, 2, 3, 15, 16} {
		g := each(votes, 0)
		held := make([]int, votes)
		for first := range votes {
			isOne(t, g, down(first, held...))
			isNone(t, g, api.Trip{First: first, Held: held})
		}
		for _, first := range farther(0, votes-1, votes, votes+1, 16, 17, -1) {
			isNone(t, g, down(first, held...))
			if first != -1 {
				isNone(t, g, api.Trip{First: first, Held: held})
			}
		}
		isOne(t, g, up(held...))
	}
	isNone(t, example(), api.Trip{})
	isNone(t, example(), api.Trip{Down: true})
}

func TestToldSize(t *testing.T) {
	for sensors := 1; sensors <= api.MaxSensors; sensors++ {
		g := api.Guard{Sensors: sensors, Votes: []api.Vote{vote(1, 0)}}
		for n := range api.MaxSensors + 3 {
			if n != sensors {
				unstepped(t, g, up(0), make([]int, n), api.ErrSize)
				unstepped(t, g, down(0, 1), make([]int, n), api.ErrSize)
			}
		}
		unstepped(t, g, up(0), nil, api.ErrSize)
		unstepped(t, g, up(0), make([]int, 1<<16+sensors), api.ErrSize)
	}
}

// A sensor tells one of three things, whether a vote is of it or not.
func TestToldRange(t *testing.T) {
	for _, sensors := range []int{1, 4, 64} {
		g := api.Guard{Sensors: sensors, Votes: []api.Vote{vote(1, 0)}}
		for place := range sensors {
			for _, n := range farther(0, 2, 3, 4, 255, 258) {
				told := calm(g)
				told[place] = n
				unstepped(t, g, up(0), told, api.ErrRange)
				unstepped(t, g, down(0, 1), told, api.ErrRange)
				unstepped(t, g, up(0), append(told, 0), api.ErrSize)
				unstepped(t, g, up(2), told, api.ErrState)
			}
		}
	}
}
