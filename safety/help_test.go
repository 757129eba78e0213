package safety_test

import (
	"fmt"
	"math"
	"slices"
	"testing"

	"plantwright/api"
	"plantwright/safety"
)

// die gives numbers that look drawn, the same each time.
type die uint64

func (d *die) n(most int) int {
	*d = *d*6364136223846793005 + 1442695040888963407
	return int(uint64(*d>>33) % uint64(most))
}

// Numbers that are nothing anywhere: no sensor, no delay, no need. Cut to fewer bits, some of them would be.
var far = []int{-1, -2, -64, -256, 1 << 8, 1 << 16, 1<<16 + 1, 1 << 32, 1<<32 + 1, -1 << 32, math.MinInt, math.MinInt + 1, math.MaxInt, math.MaxInt - 1}

// farther: these, without those that stand from low to high, and with these besides.
func farther(low, high int, more ...int) []int {
	list := append(slices.Clone(far), more...)
	return slices.DeleteFunc(list, func(n int) bool { return n >= low && n <= high })
}

// vote: so many of these.
func vote(need int, of ...int) api.Vote {
	return api.Vote{Need: need, Of: of}
}

// example: the chapter's guard: two of the sensors 0, 1, 2, or 3 alone.
func example() api.Guard {
	return api.Guard{Sensors: 4, Delay: 1, Votes: []api.Vote{vote(2, 0, 1, 2), vote(1, 3)}}
}

// each: a guard with a vote of each sensor alone.
func each(sensors, delay int) api.Guard {
	g := api.Guard{Sensors: sensors, Delay: delay}
	for i := range sensors {
		g.Votes = append(g.Votes, vote(1, i))
	}
	return g
}

// upTo: the numbers from 0 up to n.
func upTo(n int) []int {
	l := make([]int, n)
	for i := range l {
		l[i] = i
	}
	return l
}

// with: a guard of which something is other than it was.
func with(g api.Guard, change func(*api.Guard)) api.Guard {
	g = twin(g)
	change(&g)
	return g
}

// twin: the same guard, of other memory.
func twin(g api.Guard) api.Guard {
	g.Votes = slices.Clone(g.Votes)
	for i := range g.Votes {
		g.Votes[i].Of = slices.Clone(g.Votes[i].Of)
	}
	return g
}

// up: a trip of a plant that is not down; down: of one that a vote took down.
func up(held ...int) api.Trip {
	return api.Trip{First: -1, Held: held}
}

func down(first int, held ...int) api.Trip {
	return api.Trip{Down: true, First: first, Held: held}
}

// turned: the same trip, the key turned.
func turned(t api.Trip) api.Trip {
	t.Key = true
	return t
}

// alike: are two trips the same? A list without elements may be nil or not.
func alike(a, b api.Trip) bool {
	return a.Down == b.Down && a.First == b.First && slices.Equal(a.Held, b.Held) && a.Key == b.Key
}

// brief: a guard, a trip or a list as a text, cut where it is very long.
func brief(x any) string {
	s := fmt.Sprint(x)
	if len(s) > 1000 {
		return s[:1000] + " .."
	}
	return s
}

// isGood: does Check find nothing wrong, and Start tell how the guard stands at first?
func isGood(t *testing.T, g api.Guard) {
	t.Helper()
	if f := safety.Check(g); f != (api.Fault{}) {
		t.Fatalf("Check(%v): %v", brief(g), f)
	}
	if s, e := safety.Start(g); e != api.OK || !alike(s, up(make([]int, len(g.Votes))...)) {
		t.Fatalf("Start(%v): %v, %v", brief(g), s, e)
	}
	if s, e := safety.Step(g, up(make([]int, len(g.Votes))...), make([]int, g.Sensors), false); e != api.OK || !alike(s, up(make([]int, len(g.Votes))...)) {
		t.Fatalf("Step(%v): %v, %v", brief(g), s, e)
	}
}

// isBad: does Check tell this fault, and do Start and Step tell its code, and the zero trip, whatever else is wrong?
func isBad(t *testing.T, g api.Guard, code api.Errno, unit int) {
	t.Helper()
	if f := safety.Check(g); f != (api.Fault{Code: code, Unit: unit}) {
		t.Fatalf("Check(%v): %v, not %v of %d", brief(g), f, code, unit)
	}
	if s, e := safety.Start(g); e != code || !alike(s, api.Trip{}) {
		t.Fatalf("Start(%v): %v, %v, not %v", brief(g), s, e, code)
	}
	told := make([]int, min(max(g.Sensors, 0), api.MaxSensors))
	for _, trip := range []api.Trip{{}, up(make([]int, len(g.Votes))...), down(0, make([]int, len(g.Votes))...)} {
		unstepped(t, g, trip, told, code)
		unstepped(t, g, trip, nil, code)
		unstepped(t, g, trip, []int{3}, code)
	}
}

// steps: does the trip become this one?
func steps(t *testing.T, g api.Guard, trip api.Trip, told []int, key bool, want api.Trip) {
	t.Helper()
	if got, e := safety.Step(g, trip, told, key); e != api.OK || !alike(got, want) {
		t.Fatalf("Step(%v, %v, %v, %v): %v, %v, not %v", brief(g), brief(trip), brief(told), key, got, e, want)
	}
}

// unstepped: does Step tell nothing but this error, the key turned or not?
func unstepped(t *testing.T, g api.Guard, trip api.Trip, told []int, want api.Errno) {
	t.Helper()
	for _, key := range []bool{false, true} {
		if got, e := safety.Step(g, trip, told, key); e != want || !alike(got, api.Trip{}) {
			t.Fatalf("Step(%v, %v, %v, %v): %v, %v, not %v", brief(g), brief(trip), brief(told), key, got, e, want)
		}
	}
}
