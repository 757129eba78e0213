package pair_test

import (
	"testing"

	"plantwright/api"
)

// among: is a number from low up to high?
func among(n, low, high int) bool {
	return low <= n && n <= high
}

// modelSide: P13.1, of sides.
func modelSide(s api.Side) bool {
	silent := among(s.Silent, 0, s.Patience-1)
	if s.Active {
		silent = s.Silent == 0
	}
	return among(s.Me, 0, 1) && among(s.Patience, 1, 1000) && among(s.Term, 0, 1000000) && among(s.Cycle, 0, 999999999) && silent && len(s.Image) <= 20000
}

// modelBeat: P13.1, of beats.
func modelBeat(b api.Beat) bool {
	return among(b.From, 0, 1) && among(b.Term, 0, 1000000) && among(b.Cycle, 0, 999999999) && len(b.Image) <= 20000
}

// modelHear: P13.4, word by word.
func modelHear(s api.Side, b api.Beat) (api.Side, api.Errno) {
	if !modelSide(s) {
		return api.Side{}, api.ErrState
	}
	if !modelBeat(b) {
		return s, api.ErrRange
	}
	if b.From == s.Me {
		return s, api.ErrName
	}
	if b.Term < s.Term || b.Term == s.Term && (s.Active && s.Me == 0 || !s.Active && b.Cycle < s.Cycle) {
		return s, api.ErrOld
	}
	return api.Side{Me: s.Me, Patience: s.Patience, Term: b.Term, Cycle: b.Cycle, Image: b.Image}, api.OK
}

// modelWait: P13.5, word by word.
func modelWait(s api.Side) (api.Side, api.Errno) {
	if !modelSide(s) {
		return api.Side{}, api.ErrState
	}
	if s.Active {
		return s, api.OK
	}
	if s.Silent+1 != s.Patience {
		return api.Side{Me: s.Me, Patience: s.Patience, Term: s.Term, Cycle: s.Cycle, Image: s.Image, Silent: s.Silent + 1}, api.OK
	}
	if s.Term == 1000000 {
		return s, api.ErrEnd
	}
	return api.Side{Me: s.Me, Patience: s.Patience, Active: true, Term: s.Term + 1, Cycle: s.Cycle, Image: s.Image}, api.OK
}

// modelDone: P13.3, word by word.
func modelDone(s api.Side, image []int) (api.Side, api.Errno) {
	if !modelSide(s) {
		return api.Side{}, api.ErrState
	}
	if !s.Active {
		return s, api.ErrOld
	}
	if len(image) > 20000 {
		return s, api.ErrSize
	}
	if s.Cycle == 999999999 {
		return s, api.ErrEnd
	}
	return api.Side{Me: s.Me, Patience: s.Patience, Active: true, Term: s.Term, Cycle: s.Cycle + 1, Image: image}, api.OK
}

// Numbers about the edges of what sides and beats are made of.
var (
	whos      = []int{-1, 0, 1, 2}
	terms     = []int{-1, 0, 1, 2, api.MaxTerm - 1, api.MaxTerm, api.MaxTerm + 1}
	cycles    = []int{-1, 0, 1, 2, api.MaxCycle - 1, api.MaxCycle, api.MaxCycle + 1}
	silents   = []int{-1, 0, 1, 2, api.MaxPatience - 1, api.MaxPatience}
	patiences = []int{0, 1, 2, 3, api.MaxPatience, api.MaxPatience + 1}
)

// eachSide goes through all sides of these numbers.
func eachSide(try func(s api.Side)) {
	for _, me := range whos {
		for _, term := range terms {
			for _, cycle := range cycles {
				for _, silent := range silents {
					for _, patience := range patiences {
						s := api.Side{Me: me, Term: term, Cycle: cycle, Silent: silent, Patience: patience, Image: []int{term, cycle}}
						try(s)
						s.Active = true
						try(s)
					}
				}
			}
		}
	}
}

// enough: has each kind of answer come up so often?
func enough(t *testing.T, count map[api.Errno]int, least int, kinds ...api.Errno) {
	t.Helper()
	for _, e := range kinds {
		if count[e] < least {
			t.Error("too few of a kind: ", e, count)
		}
	}
	if len(count) != len(kinds) {
		t.Error("other answers: ", count)
	}
}

// All sides at the edges, held against the chapter's words.
func TestSidesModel(t *testing.T) {
	over := make([]int, api.MaxFrame+1)
	count := map[api.Errno]int{}
	eachSide(func(s api.Side) {
		want, e := modelWait(s)
		waits(t, s, want, e)
		count[e]++
		for _, image := range [][]int{nil, {8}, over} {
			want, e = modelDone(s, image)
			does(t, s, image, want, e)
			count[e]++
		}
		switch {
		case !modelSide(s):
			unsent(t, s, api.ErrState)
		case !s.Active:
			unsent(t, s, api.ErrOld)
		default:
			sends(t, s, beat(s.Me, s.Term, s.Cycle, s.Image...))
		}
	})
	enough(t, count, 50, api.OK, api.ErrState, api.ErrOld, api.ErrSize, api.ErrEnd)
}

// And all beats at the edges, of each of these sides, as far as they do not differ in how long they wait.
func TestHearModel(t *testing.T) {
	count := map[api.Errno]int{}
	eachSide(func(s api.Side) {
		if s.Patience != 2 || s.Silent > 1 {
			return
		}
		for _, from := range whos {
			for _, term := range terms {
				for _, cycle := range cycles {
					b := beat(from, term, cycle, 7)
					want, e := modelHear(s, b)
					hears(t, s, b, want, e)
					count[e]++
				}
			}
		}
	})
	enough(t, count, 1000, api.OK, api.ErrState, api.ErrRange, api.ErrName, api.ErrOld)
}

// drawnSide: a side as it comes: near the beginning or the end, and now and then none that may be.
func drawnSide(d *die) api.Side {
	s := api.Side{Me: d.n(2), Active: d.n(2) == 0, Term: d.n(4), Cycle: d.n(4), Image: many(d.n(4)), Patience: 1 + d.n(4)}
	if !s.Active {
		s.Silent = d.n(s.Patience)
	}
	if d.n(4) == 0 {
		s.Term, s.Cycle = api.MaxTerm-d.n(2), api.MaxCycle-d.n(2)
	}
	if d.n(10) == 0 {
		field := pick(d, &s.Me, &s.Term, &s.Cycle, &s.Silent, &s.Patience)
		*field = pick(d, far...)
	}
	return s
}

// drawnBeat: a beat as it comes.
func drawnBeat(d *die, s api.Side) api.Beat {
	b := beat(pick(d, 1-s.Me, 1-s.Me, 1-s.Me, s.Me), s.Term+pick(d, 0, 0, 1, -1), s.Cycle+pick(d, 0, 0, 1, -1, 5, -2), many(d.n(5))...)
	if d.n(10) == 0 {
		field := pick(d, &b.From, &b.Term, &b.Cycle)
		*field = pick(d, far...)
	}
	return b
}

// Sides and beats that are near one another.
func TestDrawnModel(t *testing.T) {
	d := die(7)
	count := map[api.Errno]int{}
	for range 60000 {
		s := drawnSide(&d)
		b := drawnBeat(&d, s)
		want, e := modelHear(s, b)
		hears(t, s, b, want, e)
		count[e]++
		want, e = modelWait(s)
		waits(t, s, want, e)
		count[e]++
		image := many(d.n(4))
		want, e = modelDone(s, image)
		does(t, s, image, want, e)
		count[e]++
	}
	enough(t, count, 1000, api.OK, api.ErrState, api.ErrRange, api.ErrName, api.ErrOld, api.ErrEnd)
}
