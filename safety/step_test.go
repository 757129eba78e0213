package safety_test

import (
	"slices"
	"testing"

	"plantwright/api"
	"plantwright/safety"
)

// moment: what is told in a step, and how the guard stands behind it.
type moment struct {
	told []int
	key  bool
	want api.Trip
}

// play: do these steps, one behind the other from the beginning on, lead to these trips?
func play(t *testing.T, g api.Guard, list ...moment) {
	t.Helper()
	trip, e := safety.Start(g)
	for i, m := range list {
		if trip, e = safety.Step(g, trip, m.told, m.key); e != api.OK || !alike(trip, m.want) {
			t.Errorf("%v: step %d: %v, %v, not %v", g, i, trip, e, m.want)
			return
		}
	}
}

// The chapter's example.
func TestExample(t *testing.T) {
	play(t, example(),
		moment{[]int{1, 0, 2, 0}, false, up(1, 0)},
		moment{[]int{1, 1, 0, 1}, false, down(0, 2, 1)},
		moment{[]int{0, 0, 0, 0}, true, turned(up(0, 0))},
		moment{[]int{0, 0, 0, 1}, true, turned(up(0, 1))},
		moment{[]int{0, 0, 0, 1}, true, turned(down(1, 0, 2))},
		moment{[]int{0, 0, 0, 0}, true, turned(down(1, 0, 0))},
		moment{[]int{0, 0, 0, 0}, false, down(1, 0, 0)},
		moment{[]int{0, 0, 0, 0}, true, turned(up(0, 0))},
	)
}

// All that three sensors can tell: two of them, whichever, are enough; who is mute counts as who demands.
func TestTwoOfThree(t *testing.T) {
	g := api.Guard{Sensors: 5, Votes: []api.Vote{vote(2, 4, 0, 2)}}
	for n := range 243 {
		told := []int{n % 3, n / 3 % 3, n / 9 % 3, n / 27 % 3, n / 81 % 3}
		quiet := 0
		for _, s := range []int{0, 2, 4} {
			if told[s] == api.Calm {
				quiet++
			}
		}
		if quiet < 2 {
			steps(t, g, up(0), told, false, down(0, 1))
		} else {
			steps(t, g, up(0), told, false, up(0))
		}
	}
}

// Each Need of each number of sensors: one less than it is not enough.
func TestNeed(t *testing.T) {
	for n := 1; n <= api.MaxSensors; n++ {
		for need := 1; need <= n; need++ {
			g := api.Guard{Sensors: api.MaxSensors, Votes: []api.Vote{vote(need, upTo(n)...)}}
			told := slices.Repeat([]int{api.Demand}, api.MaxSensors)
			clear(told[need-1 : n])
			steps(t, g, up(0), told, false, up(0))
			told[n-1] = api.Mute
			steps(t, g, up(0), told, false, down(0, 1))
		}
	}
}

// A vote takes the plant down in the step Delay behind its first one, not ahead of it; its Held stays there.
func TestDelay(t *testing.T) {
	for _, delay := range []int{0, 1, 2, 3, 255, 256, 999, 1000} {
		var list []moment
		for i := range delay {
			list = append(list, moment{[]int{1 + i%2}, i%3 == 0, api.Trip{First: -1, Held: []int{i + 1}, Key: i%3 == 0}})
		}
		for range 5 {
			list = append(list, moment{[]int{1}, false, down(0, delay+1)})
		}
		play(t, each(1, delay), list...)
	}
}

// One step in which a vote does not hold, and it begins anew.
func TestBreak(t *testing.T) {
	one, nought := []int{1, 0}, []int{0, 0}
	play(t, each(2, 2),
		moment{one, false, up(1, 0)}, moment{one, false, up(2, 0)}, moment{nought, false, up(0, 0)},
		moment{[]int{2, 1}, false, up(1, 1)}, moment{[]int{0, 2}, false, up(0, 2)}, moment{one, false, up(1, 0)},
		moment{one, false, up(2, 0)}, moment{one, false, down(0, 3, 0)}, moment{nought, false, down(0, 0, 0)},
		moment{[]int{0, 1}, false, down(0, 0, 1)}, moment{[]int{0, 1}, false, down(0, 0, 2)}, moment{[]int{0, 1}, false, down(0, 0, 3)},
		moment{[]int{0, 1}, false, down(0, 0, 3)})
}

// It is First whose Held is Delay + 1, of several the first of the list; others take no part.
func TestFirst(t *testing.T) {
	g := each(4, 2)
	steps(t, g, up(0, 1, 2, 2), []int{1, 1, 1, 1}, false, down(2, 1, 2, 3, 3))
	steps(t, g, up(2, 1, 2, 0), []int{0, 2, 1, 1}, false, down(2, 0, 2, 3, 1))
	steps(t, g, up(2, 2, 2, 2), []int{0, 0, 0, 1}, false, down(3, 0, 0, 0, 3))
	steps(t, g, up(2, 2, 2, 2), []int{1, 1, 1, 1}, true, turned(down(0, 3, 3, 3, 3)))
	steps(t, g, up(1, 1, 1, 1), []int{1, 1, 1, 1}, false, up(2, 2, 2, 2))
	for first := range api.MaxVotes {
		told := slices.Repeat([]int{api.Demand}, api.MaxVotes)
		clear(told[:first])
		steps(t, each(api.MaxVotes, 0), up(make([]int, api.MaxVotes)...), told, false, down(first, told...))
	}
}

// Who was first is told as long as the plant is down, whoever else asks for it.
func TestFirstStays(t *testing.T) {
	g := each(3, 0)
	for first := range 3 {
		for n := range 8 {
			held := []int{n & 1, n >> 1 & 1, n >> 2 & 1}
			steps(t, g, down(first, 0, 1, 0), held, false, down(first, held...))
			if n > 0 {
				steps(t, g, down(first, 1, 0, 1), held, true, turned(down(first, held...)))
			}
		}
	}
}

// A trip that no steps lead to, though it may be: it was held long enough, and the plant is not down.
func TestHeldButUp(t *testing.T) {
	g := each(2, 3)
	steps(t, g, up(4, 0), []int{0, 0}, false, up(0, 0))
	steps(t, g, up(4, 4), []int{0, 1}, false, down(1, 0, 4))
	steps(t, g, up(4, 3), []int{0, 2}, true, turned(down(1, 0, 4)))
	steps(t, g, turned(up(4, 1)), []int{0, 1}, true, turned(up(0, 2)))
}

// All that a key can do: it has to be turned now, not have been ahead of it, while no vote holds.
func TestKey(t *testing.T) {
	g := each(2, 1)
	for _, was := range []bool{false, true} {
		for _, is := range []bool{false, true} {
			for n := range 4 {
				told := []int{n & 1, n >> 1}
				from := api.Trip{Down: true, First: 1, Held: []int{2, 2}, Key: was}
				want := api.Trip{Down: true, First: 1, Held: []int{2 * told[0], 2 * told[1]}, Key: is}
				if is && !was && n == 0 {
					want = turned(up(0, 0))
				}
				steps(t, g, from, told, is, want)
				steps(t, g, api.Trip{First: -1, Held: []int{0, 0}, Key: was}, told, is, api.Trip{First: -1, Held: told, Key: is})
			}
		}
	}
}

// A sensor that asks alone, where two are needed, does not hold the key up.
func TestKeyWhileSomeAsk(t *testing.T) {
	steps(t, example(), down(0, 2, 0), []int{0, 1, 0, 0}, true, turned(up(0, 0)))
	steps(t, example(), down(1, 2, 2), []int{2, 0, 0, 0}, true, turned(up(0, 0)))
	steps(t, example(), down(0, 2, 0), []int{0, 1, 2, 0}, true, turned(down(0, 2, 0)))
	steps(t, example(), down(0, 2, 0), []int{0, 0, 0, 2}, true, turned(down(0, 0, 1)))
}

// A key that was turned too early has to be turned back first; nor does it help ahead of the plant's going down.
func TestKeyTooEarly(t *testing.T) {
	play(t, each(1, 0),
		moment{[]int{0}, true, turned(up(0))}, moment{[]int{1}, true, turned(down(0, 1))}, moment{[]int{0}, true, turned(down(0, 0))},
		moment{[]int{1}, false, down(0, 1)}, moment{[]int{1}, true, turned(down(0, 1))}, moment{[]int{0}, true, turned(down(0, 0))},
		moment{[]int{0}, false, down(0, 0)}, moment{[]int{0}, true, turned(up(0))}, moment{[]int{2}, false, down(0, 1)})
	steps(t, each(1, 0), up(0), []int{1}, true, turned(down(0, 1)))
}

// Up again, a vote is counted from its beginning on.
func TestUpAgain(t *testing.T) {
	play(t, each(1, 1),
		moment{[]int{1}, false, up(1)}, moment{[]int{1}, false, down(0, 2)}, moment{[]int{0}, true, turned(up(0))},
		moment{[]int{1}, false, up(1)}, moment{[]int{0}, true, turned(up(0))}, moment{[]int{1}, true, turned(up(1))},
		moment{[]int{2}, true, turned(down(0, 2))})
}
