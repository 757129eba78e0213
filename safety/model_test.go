package safety_test

import (
	"math"
	"testing"

	"plantwright/api"
	"plantwright/safety"
)

// modelCheck: as the chapter says it, each thing asked by itself.
func modelCheck(g api.Guard) api.Fault {
	if !(g.Sensors >= 1 && g.Sensors <= 64) || !(len(g.Votes) >= 1 && len(g.Votes) <= 16) {
		return api.Fault{Code: api.ErrSize}
	}
	if !(g.Delay >= 0 && g.Delay <= 1000) {
		return api.Fault{Code: api.ErrRange}
	}
	for i, v := range g.Votes {
		count := map[int]int{}
		none, twice := false, false
		for _, s := range v.Of {
			count[s]++
			none = none || s < 0 || s >= g.Sensors
			twice = twice || count[s] > 1
		}
		switch {
		case len(v.Of) == 0:
			return api.Fault{Code: api.ErrSize, Unit: i}
		case none:
			return api.Fault{Code: api.ErrName, Unit: i}
		case twice:
			return api.Fault{Code: api.ErrTwice, Unit: i}
		case v.Need < 1 || v.Need > len(v.Of):
			return api.Fault{Code: api.ErrRange, Unit: i}
		}
	}
	return api.Fault{}
}

// drawn: a guard that may be.
func drawn(d *die) api.Guard {
	g := api.Guard{Sensors: 1 + d.n(6), Delay: []int{0, 0, 1, 1, 2, 3, 1000}[d.n(7)]}
	for range 1 + d.n(4) {
		of := upTo(g.Sensors)
		for i := range of {
			j := d.n(i + 1)
			of[i], of[j] = of[j], of[i]
		}
		of = of[:1+d.n(g.Sensors)]
		g.Votes = append(g.Votes, vote(1+d.n(len(of)), of...))
	}
	return g
}

// spoilt: the same guard, with something changed, which may be wrong now.
func spoilt(d *die, g api.Guard) api.Guard {
	for range 1 + d.n(3) {
		odd := []int{-1, 0, 1, 2, 5, 6, 64, 65, 1000, 1001, math.MinInt, math.MaxInt}[d.n(12)]
		i := d.n(len(g.Votes))
		v := &g.Votes[i]
		switch d.n(9) {
		case 0:
			g.Sensors = odd
		case 1:
			g.Delay = odd
		case 2, 3:
			v.Need = odd
		case 4:
			v.Of = nil
		case 5, 6:
			v.Of = append(v.Of, odd)
		case 7:
			v.Of = append(v.Of, d.n(6))
		default:
			for range d.n(17) {
				g.Votes = append(g.Votes, twin(g).Votes[i])
			}
		}
	}
	return g
}

// Guards of all kinds, held against the chapter's words.
func TestCheckModel(t *testing.T) {
	d := die(1)
	count := map[api.Fault]int{}
	for range 50000 {
		g := drawn(&d)
		isGood(t, g)
		g = spoilt(&d, g)
		want := modelCheck(g)
		if count[want]++; want.Code == api.OK {
			isGood(t, g)
		} else {
			isBad(t, g, want.Code, want.Unit)
		}
	}
	for _, e := range []api.Errno{api.OK, api.ErrSize, api.ErrRange, api.ErrName, api.ErrTwice} {
		if count[api.Fault{Code: e}] < 500 || e != api.OK && count[api.Fault{Code: e, Unit: 1}] < 100 {
			t.Error("too few of each kind: ", count)
		}
	}
}

// history: all that sensors have told and whether the key was turned, step by step.
type history struct {
	g     api.Guard
	told  [][]int
	keys  []bool
	first []int // behind each step; -1: the plant was up
}

// held: for how many steps, the last one of them now, a vote has held, by what was told in these.
func (h *history) held(v api.Vote) int {
	n := 0
	for i := len(h.told) - 1; i >= 0 && n <= h.g.Delay; i-- {
		ask := 0
		for _, s := range v.Of {
			if h.told[i][s] == api.Demand || h.told[i][s] == api.Mute {
				ask++
			}
		}
		if ask < v.Need {
			break
		}
		n++
	}
	return n
}

// goesOn: how the guard stands behind one step more.
func (h *history) goesOn(told []int, key bool) api.Trip {
	h.told, h.keys = append(h.told, told), append(h.keys, key)
	was, ahead := -1, false
	if i := len(h.first) - 1; i >= 0 {
		was, ahead = h.first[i], h.keys[i]
	}
	trip := api.Trip{First: was, Key: key}
	quiet := true
	for i, v := range h.g.Votes {
		n := h.held(v)
		trip.Held = append(trip.Held, n)
		quiet = quiet && n == 0
		if n == h.g.Delay+1 && trip.First == -1 {
			trip.First = i
		}
	}
	if was != -1 && key && !ahead && quiet {
		trip.First = -1
	}
	trip.Down = trip.First != -1
	h.first = append(h.first, trip.First)
	return trip
}

// tells: what sensors tell, more or less wildly.
func tells(d *die, sensors, wild int) []int {
	told := make([]int, sensors)
	for i := range told {
		if d.n(4) < wild {
			told[i] = 1 + d.n(2)
		}
	}
	return told
}

// Guards that go on step by step, held against all that was told from the beginning on.
func TestStepModel(t *testing.T) {
	d := die(2)
	downs, ups, waits := 0, 0, 0
	for range 2000 {
		g := drawn(&d)
		h := history{g: g}
		trip, _ := safety.Start(g)
		wild := 0
		for range 60 {
			if d.n(6) == 0 {
				wild = d.n(5)
			}
			told, key := tells(&d, g.Sensors, wild), d.n(3) == 0
			was := trip
			want := h.goesOn(told, key)
			got, e := safety.Step(g, trip, told, key)
			if trip = got; e != api.OK || !alike(got, want) {
				t.Fatalf("Step(%v, %v, %v, %v): %v, %v, not %v", g, was, told, key, got, e, want)
			}
			switch {
			case got.Down && !was.Down:
				downs++
			case !got.Down && was.Down:
				ups++
			case got.Down && key:
				waits++
			}
		}
	}
	if downs < 2000 || ups < 2000 || waits < 2000 {
		t.Error("too few of each kind: ", downs, ups, waits)
	}
}

// modelStep: one step from any trip, as the chapter says it.
func modelStep(g api.Guard, trip api.Trip, told []int, key bool) (api.Trip, api.Errno) {
	if f := modelCheck(g); f.Code != api.OK {
		return api.Trip{}, f.Code
	}
	ok := len(trip.Held) == len(g.Votes) && (trip.Down && trip.First >= 0 && trip.First < len(g.Votes) || !trip.Down && trip.First == -1)
	for _, n := range trip.Held {
		ok = ok && n >= 0 && n <= g.Delay+1
	}
	if !ok {
		return api.Trip{}, api.ErrState
	}
	if len(told) != g.Sensors {
		return api.Trip{}, api.ErrSize
	}
	for _, n := range told {
		if n != 0 && n != 1 && n != 2 {
			return api.Trip{}, api.ErrRange
		}
	}
	next, enough, any := api.Trip{Key: key}, -1, false
	for i := len(g.Votes) - 1; i >= 0; i-- {
		ask, held := 0, 0
		for _, s := range g.Votes[i].Of {
			ask += (told[s] + 1) / 2
		}
		if ask >= g.Votes[i].Need {
			any = true
			held = min(trip.Held[i]+1, g.Delay+1)
		}
		if next.Held = append([]int{held}, next.Held...); held == g.Delay+1 {
			enough = i
		}
	}
	next.First = trip.First
	if !trip.Down {
		next.First = enough
	} else if key && !trip.Key && !any {
		next.First = -1
	}
	next.Down = next.First >= 0
	return next, api.OK
}

// All trips of some small guards, those too that could not be, with all that can be told, and some that cannot.
func TestAllSteps(t *testing.T) {
	guards := []api.Guard{
		{Sensors: 2, Delay: 0, Votes: []api.Vote{vote(1, 0), vote(2, 1, 0)}},
		{Sensors: 2, Delay: 1, Votes: []api.Vote{vote(2, 0, 1), vote(1, 1)}},
		{Sensors: 2, Delay: 2, Votes: []api.Vote{vote(1, 0, 1), vote(1, 0)}},
		{Sensors: 2, Delay: 1, Votes: []api.Vote{vote(1, 0), vote(3, 0, 1)}},
	}
	count := map[api.Errno]int{}
	for _, g := range guards {
		for n := range 2 * 2 * 2 * 4 * 6 * 6 * 25 {
			take := func(most int) int { x := n % most; n /= most; return x }
			key, was, isDown, first := take(2) == 1, take(2) == 1, take(2) == 1, take(4)-1
			trip := api.Trip{Down: isDown, First: first, Held: []int{take(6) - 1, take(6) - 1}, Key: was}
			told := []int{take(5) - 1, take(5) - 1}
			want, e := modelStep(g, trip, told, key)
			if count[e]++; e == api.OK {
				steps(t, g, trip, told, key, want)
			} else if got, f := safety.Step(g, trip, told, key); f != e || !alike(got, api.Trip{}) {
				t.Fatalf("Step(%v, %v, %v, %v): %v, %v, not %v", g, trip, told, key, got, f, e)
			}
		}
	}
	if count[api.OK] < 1000 || count[api.ErrState] < 1000 || count[api.ErrRange] < 1000 {
		t.Error("too few of each kind: ", count)
	}
}

// Trips and tellings of any length, with any numbers, held against the chapter's words.
func TestOddSteps(t *testing.T) {
	d := die(3)
	odd := []int{-1, 0, 0, 0, 1, 1, 2, 2, 3, 4, 1001, 1002, math.MinInt, math.MaxInt}
	list := func(about int) []int {
		l := make([]int, max(0, about+[]int{0, 0, 0, 0, 0, 0, -1, 1}[d.n(8)]))
		for i := range l {
			if l[i] = d.n(2); d.n(12) == 0 {
				l[i] = odd[d.n(len(odd))]
			}
		}
		return l
	}
	count := map[api.Errno]int{}
	for range 50000 {
		g := drawn(&d)
		if d.n(4) == 0 {
			g = spoilt(&d, g)
		}
		trip := api.Trip{Down: d.n(2) == 0, First: -1, Held: list(len(g.Votes)), Key: d.n(2) == 0}
		if trip.Down {
			trip.First = d.n(len(g.Votes))
		}
		if d.n(8) == 0 {
			trip.First = odd[d.n(len(odd))]
		}
		told, key := list(min(max(g.Sensors, 0), 70)), d.n(2) == 0
		want, e := modelStep(g, trip, told, key)
		got, f := safety.Step(g, trip, told, key)
		if count[e]++; f != e || !alike(got, want) {
			t.Fatalf("Step(%v, %v, %v, %v): %v, %v, not %v, %v", g, trip, told, key, got, f, want, e)
		}
	}
	for _, e := range []api.Errno{api.OK, api.ErrState, api.ErrSize, api.ErrRange, api.ErrName, api.ErrTwice} {
		if count[e] < 500 {
			t.Error("too few of each kind: ", count)
		}
	}
}
