package safety_test

import (
	"fmt"
	"slices"
	"strings"
	"testing"

	"plantwright/api"
	"plantwright/safety"
)

// roomy: the same list, with room behind it that is not nothing.
func roomy[T any](l []T, spare T) []T {
	out := append(slices.Clone(l), slices.Repeat([]T{spare}, 50)...)
	return out[:len(l)]
}

// roomyGuard: the same guard, its lists with such room.
func roomyGuard(g api.Guard) api.Guard {
	g.Votes = roomy(twin(g).Votes, vote(1, 0))
	for i := range g.Votes {
		g.Votes[i].Of = roomy(g.Votes[i].Of, 1)
	}
	return g
}

// whole: all that a list has, its spare room too, as a text.
func whole(l []int) string {
	return fmt.Sprint(len(l), l[:cap(l)])
}

func wholeTrip(t api.Trip) string {
	return fmt.Sprint(t.Down, t.First, t.Key, whole(t.Held))
}

func wholeGuard(g api.Guard) string {
	s := fmt.Sprint(g.Sensors, g.Delay, len(g.Votes))
	for _, v := range g.Votes[:cap(g.Votes)] {
		s += fmt.Sprint(v.Need, whole(v.Of))
	}
	return s
}

// spoil writes over all of a list, its spare room too.
func spoil(l []int) {
	l = l[:cap(l)]
	for i := range l {
		l[i] = 77
	}
}

// someGuards: of all kinds, and some that may not be.
func someGuards() []api.Guard {
	return []api.Guard{
		example(), each(2, 0), each(16, 1000), {Sensors: 4, Votes: []api.Vote{vote(4, 3, 2, 1, 0), vote(1, 3)}},
		{}, {Sensors: 4}, {Sensors: 4, Votes: []api.Vote{}}, {Sensors: 4, Votes: []api.Vote{vote(1), {Need: 1, Of: []int{}}}},
		{Sensors: 4, Votes: []api.Vote{vote(1, 2, 2), vote(1, 9)}}, {Sensors: 4, Delay: -1, Votes: []api.Vote{vote(1, 2)}},
	}
}

func someTrips() []api.Trip {
	return []api.Trip{
		{}, up(0, 0), up(1, 0), down(0, 1, 1), turned(down(1, 0, 0)), down(1, 0, 0), down(2, 0, 0), up(9, 9), up(-1, 0), up(), down(0),
		up(make([]int, 16)...), turned(down(15, make([]int, 16)...)), up(make([]int, 17)...), {First: -1, Held: []int{}},
	}
}

func someTold() [][]int {
	return [][]int{nil, {}, {0, 0}, {1, 2}, {0, 0, 0, 0}, {1, 1, 2, 2}, {0, 0, 0, 3}, {0, 0, 1}, make([]int, 16), slices.Repeat([]int{1}, 16)}
}

// tell: what all calls answer.
func tell(g api.Guard, t api.Trip, told []int, key bool) string {
	s, e := safety.Start(g)
	u, e2 := safety.Step(g, t, told, key)
	return fmt.Sprint(safety.Check(g), s, e, u, e2)
}

// tries goes through all of these together.
func tries(try func(g api.Guard, t api.Trip, told []int, key bool)) {
	for _, g := range someGuards() {
		for _, t := range someTrips() {
			for _, told := range someTold() {
				try(g, t, told, false)
				try(g, t, told, true)
			}
		}
	}
}

// What is handed in is not changed, its spare room neither; and what lies there is not looked at.
func TestArgumentsStay(t *testing.T) {
	tries(func(g api.Guard, trip api.Trip, told []int, key bool) {
		rg, rt, rl := roomyGuard(g), trip, roomy(told, 1)
		rt.Held = roomy(trip.Held, 1)
		guards, trips, list := wholeGuard(rg), wholeTrip(rt), whole(rl)
		got := tell(rg, rt, rl, key)
		if wholeGuard(rg) != guards || wholeTrip(rt) != trips || whole(rl) != list {
			t.Fatalf("changed: %v, %v, %v", g, trip, told)
		}
		if got != tell(g, trip, told, key) {
			t.Fatalf("spare room counts: %v, %v, %v", g, trip, told)
		}
	})
}

// What is written into an answer, its spare room too, is seen neither in what was handed in nor in another answer; and what was handed in is not kept.
func TestAnswersAreNew(t *testing.T) {
	tries(func(g api.Guard, trip api.Trip, told []int, key bool) {
		g, told = roomyGuard(g), roomy(told, 1)
		trip.Held = roomy(trip.Held, 1)
		given := wholeGuard(g) + wholeTrip(trip) + whole(told)
		s1, _ := safety.Start(g)
		s2, _ := safety.Start(g)
		u1, _ := safety.Step(g, trip, told, key)
		u2, _ := safety.Step(g, trip, told, key)
		answers := wholeTrip(s2) + wholeTrip(u2)
		spoil(s1.Held)
		spoil(u1.Held)
		if wholeGuard(g)+wholeTrip(trip)+whole(told) != given || wholeTrip(s2)+wholeTrip(u2) != answers {
			t.Fatalf("%v, %v, %v: an answer shares memory", g, trip, told)
		}
		for _, v := range g.Votes {
			spoil(v.Of)
		}
		spoil(trip.Held)
		spoil(told)
		if wholeTrip(s2)+wholeTrip(u2) != answers {
			t.Fatalf("%v, %v, %v: a list was kept", g, trip, told)
		}
	})
}

// Lists that are one and the same memory are taken like any others.
func TestOneListTwice(t *testing.T) {
	list := []int{0, 1}
	g := api.Guard{Sensors: 2, Delay: 1, Votes: []api.Vote{{Need: 2, Of: list}, {Need: 1, Of: list}}}
	steps(t, g, up(list...), list, false, down(1, 0, 2))
	steps(t, g, down(0, list...), list, true, turned(down(0, 0, 2)))
	if !slices.Equal(list, []int{0, 1}) {
		t.Error(list)
	}
}

// Lists without elements may be nil or not: where there have to be some, both are refused alike.
func TestEmptyLists(t *testing.T) {
	g := each(1, 0)
	for _, none := range [][]int{nil, {}} {
		isBad(t, api.Guard{Sensors: 1, Votes: []api.Vote{{Need: 1, Of: none}}}, api.ErrSize, 0)
		isNone(t, g, api.Trip{First: -1, Held: none})
		isNone(t, g, api.Trip{Down: true, Held: none})
		unstepped(t, g, up(0), none, api.ErrSize)
	}
}

// An answer hangs on no call ahead of it.
func TestNothingIsKept(t *testing.T) {
	all := func() string {
		var s strings.Builder
		tries(func(g api.Guard, trip api.Trip, told []int, key bool) { s.WriteString(tell(g, trip, told, key)) })
		return s.String()
	}
	first := all()
	for range 3 {
		if all() != first {
			t.Error("it is not as it was")
		}
	}
}
