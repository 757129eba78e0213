package safety_test

import (
	"slices"
	"testing"

	"plantwright/api"
	"plantwright/safety"
)

// more: what sensors tell who demand as much as these do, and some of them more.
func more(d *die, told []int) []int {
	told = slices.Clone(told)
	for i := range told {
		if d.n(4) == 0 {
			told[i] = 1 + d.n(2)
		}
	}
	return told
}

// Sensors that tell more demands never take a plant down later: with the same key it is down wherever it is with fewer, the first time and after each time that it was let up again.
func TestMoreDemands(t *testing.T) {
	d := die(4)
	ahead, both, neither, again := 0, 0, 0, 0
	for range 5000 {
		g := drawn(&d)
		a, _ := safety.Start(g)
		b, _ := safety.Start(g)
		for range 40 {
			told, key, was := tells(&d, g.Sensors, d.n(3)), d.n(2) == 0, b.Down
			a, _ = safety.Step(g, a, told, key)
			b, _ = safety.Step(g, b, more(&d, told), key)
			switch {
			case a.Down && !b.Down:
				t.Fatalf("%v: %v, with more demands %v", g, a, b)
			case b.Down && !a.Down:
				ahead++
			case b.Down:
				both++
			case was:
				again++
			default:
				neither++
			}
		}
	}
	if min(ahead, both, neither, again) < 2000 {
		t.Error("too few of each kind: ", ahead, both, neither, again)
	}
}

// What is down stays down, with the vote that took it down, whatever sensors tell, as long as no key is turned anew while no vote holds.
func TestStaysDown(t *testing.T) {
	d := die(5)
	for range 2000 {
		g := drawn(&d)
		first := d.n(len(g.Votes))
		trip := down(first, make([]int, len(g.Votes))...)
		for range 60 {
			told := tells(&d, g.Sensors, d.n(5))
			key := trip.Key
			if d.n(2) == 0 && !key {
				key = true
				told = slices.Repeat([]int{api.Mute}, g.Sensors)
			} else if d.n(3) == 0 {
				key = false
			}
			var e api.Errno
			if trip, e = safety.Step(g, trip, told, key); e != api.OK || !trip.Down || trip.First != first || trip.Key != key {
				t.Fatal(g, trip, told, key, e)
			}
		}
		key := trip.Key
		if trip, _ = safety.Step(g, trip, calm(g), true); trip.Down != key {
			t.Fatal(g, trip, key)
		}
		trip, _ = safety.Step(g, trip, calm(g), false)
		steps(t, g, trip, calm(g), true, turned(up(make([]int, len(g.Votes))...)))
	}
}
