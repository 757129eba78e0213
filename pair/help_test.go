package pair_test

import (
	"fmt"
	"math"
	"slices"
	"testing"

	"plantwright/api"
	"plantwright/pair"
)

// die gives numbers that look drawn, the same each time.
type die uint64

func (d *die) n(most int) int {
	*d = *d*6364136223846793005 + 1442695040888963407
	return int(uint64(*d>>33) % uint64(most))
}

func pick[T any](d *die, l ...T) T {
	return l[d.n(len(l))]
}

// Numbers that are nothing anywhere: no side, no patience, no term, no cycle. Cut to fewer bits, some of them would be.
var far = []int{
	-1, -2, -255, -256, -65536, -1 << 32, math.MinInt, math.MinInt + 1,
	1 << 30, 1 << 32, 1<<32 + 1, 1 << 62, math.MaxInt, math.MaxInt - 1,
}

var (
	noSides     = append([]int{2, 3, 255, 256, 257, 65536, 65537}, far...)
	noPatiences = append([]int{0, api.MaxPatience + 1, api.MaxPatience + 2, 1024, 65536, 65537}, far...)
	noTerms     = append([]int{api.MaxTerm + 1, api.MaxTerm + 2, 1 << 20}, far...)
	noCycles    = append([]int{api.MaxCycle + 1, api.MaxCycle + 2}, far...)
)

// Lengths of lists that have too many words.
var tooMany = []int{api.MaxFrame + 1, api.MaxFrame + 2, 2 * api.MaxFrame, 1 << 15, 1 << 16, 1<<16 + 1, 1 << 20}

// many: so many words.
func many(n int) []int {
	l := make([]int, n)
	for i := range l {
		l[i] = i*7919 - 40000
	}
	return l
}

// active: a side that is so; waiting: one that waits, and has heard nothing for a tick.
func active(me int) api.Side {
	return api.Side{Me: me, Active: true, Term: 3, Cycle: 9, Image: []int{5, -6}, Patience: 4}
}

func waiting(me int) api.Side {
	return api.Side{Me: me, Term: 3, Cycle: 9, Image: []int{5, -6}, Silent: 1, Patience: 4}
}

// kinds: sides of both numbers, active or not.
func kinds() []api.Side {
	return []api.Side{active(0), active(1), waiting(0), waiting(1)}
}

// with: a side of which something is other than it was.
func with(s api.Side, change func(*api.Side)) api.Side {
	s = twin(s)
	change(&s)
	return s
}

// twin: the same side, of other memory.
func twin(s api.Side) api.Side {
	s.Image = slices.Clone(s.Image)
	return s
}

// beat: what the other side could tell.
func beat(from, term, cycle int, image ...int) api.Beat {
	return api.Beat{From: from, Term: term, Cycle: cycle, Image: image}
}

// follows: the side that has heard a beat.
func follows(s api.Side, b api.Beat) api.Side {
	return api.Side{Me: s.Me, Term: b.Term, Cycle: b.Cycle, Image: b.Image, Patience: s.Patience}
}

// alike: are two sides the same? A list without elements may be nil or not.
func alike(a, b api.Side) bool {
	return a.Me == b.Me && a.Active == b.Active && a.Term == b.Term && a.Cycle == b.Cycle && slices.Equal(a.Image, b.Image) && a.Silent == b.Silent && a.Patience == b.Patience
}

func alikeBeats(a, b api.Beat) bool {
	return a.From == b.From && a.Term == b.Term && a.Cycle == b.Cycle && slices.Equal(a.Image, b.Image)
}

// brief: something as a text, cut where it is very long.
func brief(x any) string {
	s := fmt.Sprintf("%+v", x)
	if len(s) > 500 {
		return s[:500] + " .."
	}
	return s
}

// starts: does Start tell this side?
func starts(t *testing.T, me, patience int, image []int, want api.Side) {
	t.Helper()
	if got, e := pair.Start(me, patience, image); e != api.OK || !alike(got, want) {
		t.Fatalf("Start(%d, %d, %v): %v, %v, not %v", me, patience, brief(image), brief(got), e, brief(want))
	}
}

// unstarted: does Start tell nothing but this error?
func unstarted(t *testing.T, me, patience int, image []int, want api.Errno) {
	t.Helper()
	if got, e := pair.Start(me, patience, image); e != want || !alike(got, api.Side{}) {
		t.Fatalf("Start(%d, %d, %v): %v, %v, not %v", me, patience, brief(image), brief(got), e, want)
	}
}

// sends: does the side tell this beat?
func sends(t *testing.T, s api.Side, want api.Beat) {
	t.Helper()
	if got, e := pair.Send(twin(s)); e != api.OK || !alikeBeats(got, want) {
		t.Fatalf("Send(%v): %v, %v, not %v", brief(s), brief(got), e, brief(want))
	}
}

// unsent: does Send tell nothing but this error?
func unsent(t *testing.T, s api.Side, want api.Errno) {
	t.Helper()
	if got, e := pair.Send(twin(s)); e != want || !alikeBeats(got, api.Beat{}) {
		t.Fatalf("Send(%v): %v, %v, not %v", brief(s), brief(got), e, want)
	}
}

// hears: does the side become this one by a beat? With an error this is what it was.
func hears(t *testing.T, s api.Side, b api.Beat, want api.Side, code api.Errno) {
	t.Helper()
	if got, e := pair.Hear(twin(s), b); e != code || !alike(got, want) {
		t.Fatalf("Hear(%v, %v): %v, %v, not %v, %v", brief(s), brief(b), brief(got), e, brief(want), code)
	}
}

// waits: does it become this one by a tick?
func waits(t *testing.T, s, want api.Side, code api.Errno) {
	t.Helper()
	if got, e := pair.Wait(twin(s)); e != code || !alike(got, want) {
		t.Fatalf("Wait(%v): %v, %v, not %v, %v", brief(s), brief(got), e, brief(want), code)
	}
}

// does: does it become this one by a cycle?
func does(t *testing.T, s api.Side, image []int, want api.Side, code api.Errno) {
	t.Helper()
	if got, e := pair.Done(twin(s), image); e != code || !alike(got, want) {
		t.Fatalf("Done(%v, %v): %v, %v, not %v, %v", brief(s), brief(image), brief(got), e, brief(want), code)
	}
}

// isNone: do all steps tell ErrState, and nothing besides, whatever else is wrong?
func isNone(t *testing.T, s api.Side) {
	t.Helper()
	unsent(t, s, api.ErrState)
	waits(t, s, api.Side{}, api.ErrState)
	for _, image := range [][]int{nil, {1, 2}, make([]int, api.MaxFrame+1)} {
		does(t, s, image, api.Side{}, api.ErrState)
	}
	for _, b := range []api.Beat{{}, beat(0, 3, 9, 7), beat(1, 3, 9, 7), beat(0, api.MaxTerm, 0), beat(1, api.MaxTerm, 0), beat(0, 0, 0), beat(1, 0, 0), beat(2, -1, -1), beat(1-s.Me, s.Term+1, s.Cycle, 7)} {
		hears(t, s, b, api.Side{}, api.ErrState)
	}
}

// isOne: do all steps take the side for one that may be?
func isOne(t *testing.T, s api.Side) {
	t.Helper()
	if got, e := pair.Wait(s); e == api.ErrState || got.Me != s.Me || got.Patience != s.Patience {
		t.Fatalf("Wait(%v): %v, %v", brief(s), brief(got), e)
	}
	hears(t, s, beat(2, 0, 0), s, api.ErrRange)
	hears(t, s, beat(s.Me, 0, 0), s, api.ErrName)
	hears(t, with(s, func(s *api.Side) { s.Active = false }), beat(1-s.Me, s.Term, s.Cycle, 1, 2), follows(s, beat(s.Me, s.Term, s.Cycle, 1, 2)), api.OK)
	if s.Active {
		sends(t, s, beat(s.Me, s.Term, s.Cycle, s.Image...))
		does(t, s, make([]int, api.MaxFrame+1), s, api.ErrSize)
	} else {
		unsent(t, s, api.ErrOld)
		does(t, s, nil, s, api.ErrOld)
	}
}
