package pair_test

import (
	"testing"

	"plantwright/api"
	"plantwright/pair"
)

// must: a side behind a step that nothing is wrong with.
func must(t *testing.T, s api.Side, e api.Errno) api.Side {
	t.Helper()
	if e != api.OK {
		t.Fatal(s, e)
	}
	return s
}

// both: two sides at first.
func both(t *testing.T, patience int) (api.Side, api.Side) {
	t.Helper()
	zero, e := pair.Start(0, patience, []int{0})
	zero = must(t, zero, e)
	one, e := pair.Start(1, patience, []int{0})
	return zero, must(t, one, e)
}

// The chapter's example.
func TestExample(t *testing.T) {
	zero, one := both(t, 2)
	for i := range 3 {
		s, e := pair.Done(zero, []int{i + 1})
		zero = must(t, s, e)
	}
	b, e := pair.Send(zero)
	if e != api.OK || !alikeBeats(b, beat(0, 0, 3, 3)) {
		t.Fatal(b, e)
	}
	one, e = pair.Hear(one, b)
	if e != api.OK || !alike(one, api.Side{Me: 1, Cycle: 3, Image: []int{3}, Patience: 2}) {
		t.Fatal(one, e)
	}
	one, e = pair.Wait(one)
	if e != api.OK || !alike(one, api.Side{Me: 1, Cycle: 3, Image: []int{3}, Silent: 1, Patience: 2}) {
		t.Fatal(one, e)
	}
	one, e = pair.Wait(one)
	if e != api.OK || !alike(one, api.Side{Me: 1, Active: true, Term: 1, Cycle: 3, Image: []int{3}, Patience: 2}) {
		t.Fatal(one, e)
	}
	hears(t, one, b, one, api.ErrOld)
	if b, e = pair.Send(one); e != api.OK || !alikeBeats(b, beat(1, 1, 3, 3)) {
		t.Fatal(b, e)
	}
	hears(t, zero, b, api.Side{Me: 0, Term: 1, Cycle: 3, Image: []int{3}, Patience: 2}, api.OK)
}

// world: two sides, and all beats that were told and may still come, once, again or never. The image of a cycle is how many were done.
type world struct {
	sides [2]api.Side
	told  [2][]api.Beat // by who told them
}

// act: one of the two does something, or hears a beat, or nothing.
func (w *world) act(t *testing.T, d *die) {
	t.Helper()
	me := d.n(2)
	s, e := w.sides[me], api.OK
	switch choice := d.n(8); {
	case choice < 2:
		if b, e := pair.Send(s); e == api.OK {
			w.told[me] = append(w.told[me], b)
		}
	case choice < 4 && len(w.told[1-me]) > 0:
		l := w.told[1-me]
		s, e = pair.Hear(s, l[max(0, len(l)-1-d.n(1+d.n(6)))])
	case choice < 6:
		s, e = pair.Done(s, []int{s.Image[0] + 1})
	default:
		s, e = pair.Wait(s)
	}
	if e != api.OK && e != api.ErrOld || e == api.ErrOld && !alike(s, w.sides[me]) {
		t.Fatalf("%v: %v, %v", w.sides[me], s, e)
	}
	w.sides[me] = s
}

// meet: both sides hear one another.
func (w *world) meet() {
	for me := range w.sides {
		if b, e := pair.Send(w.sides[me]); e == api.OK {
			w.sides[1-me], _ = pair.Hear(w.sides[1-me], b)
		}
	}
}

// behind: does one lie behind the other, by its term, and within a term by its cycle?
func behind(a, b api.Side) bool {
	return a.Term < b.Term || a.Term == b.Term && a.Cycle < b.Cycle
}

// Whatever is lost, comes late or comes twice: no side goes back; what came of each cycle belongs to it; one of them at least is active, and never both in one term.
func TestNoSideGoesBack(t *testing.T) {
	d := die(11)
	taken, given, double := 0, 0, 0
	for range 1000 {
		var w world
		w.sides[0], w.sides[1] = both(t, 1+d.n(4))
		for range 150 {
			was := w.sides
			w.act(t, &d)
			for me, s := range w.sides {
				if behind(s, was[me]) || s.Image[0] != s.Cycle {
					t.Fatalf("%v becomes %v", was[me], s)
				}
				if s.Active && !was[me].Active {
					taken++
				} else if !s.Active && was[me].Active {
					given++
				}
			}
			a, b := w.sides[0], w.sides[1]
			if !a.Active && !b.Active || a.Active && b.Active && a.Term == b.Term {
				t.Fatal(a, b)
			}
			if a.Active && b.Active {
				double++
			}
		}
	}
	if min(taken, given, double) < 1000 {
		t.Error("too few of each kind: ", taken, given, double)
	}
}

// When both hear one another, just one is active, and both have come as far.
func TestOneOfTwo(t *testing.T) {
	d := die(12)
	again := 0
	for range 3000 {
		var w world
		w.sides[0], w.sides[1] = both(t, 1+d.n(4))
		for range d.n(80) {
			w.act(t, &d)
		}
		if w.sides[0].Active && w.sides[1].Active {
			again++
		}
		w.meet()
		a, b := w.sides[0], w.sides[1]
		if a.Active == b.Active || a.Term != b.Term || a.Cycle != b.Cycle || a.Image[0] != b.Image[0] {
			t.Fatal(a, b)
		}
	}
	if again < 500 {
		t.Error("too seldom both were active: ", again)
	}
}

// So it is with any two that are active, however they came to be: who is in a later term stays, and in one term side 0.
func TestTwoActive(t *testing.T) {
	for _, a := range []int{0, 1, 2, api.MaxTerm - 1, api.MaxTerm} {
		for _, b := range []int{0, 1, 2, api.MaxTerm - 1, api.MaxTerm} {
			for _, cycle := range []int{0, 1, api.MaxCycle} {
				w := world{sides: [2]api.Side{{Me: 0, Active: true, Term: a, Cycle: 1, Patience: 2}, {Me: 1, Active: true, Term: b, Cycle: cycle, Patience: 2}}}
				w.meet()
				if stays := a >= b; w.sides[0].Active != stays || w.sides[1].Active == stays {
					t.Fatal(a, b, cycle, w.sides)
				}
			}
		}
	}
}

// As long as an active side is heard in time nobody takes over; who takes over when it is not goes on from its last beat.
func TestTakeOver(t *testing.T) {
	d := die(13)
	for range 300 {
		patience := 1 + d.n(5)
		zero, one := both(t, patience)
		var last api.Beat
		for range 1 + d.n(30) {
			for range d.n(3) {
				s, e := pair.Done(zero, []int{zero.Image[0] + 1})
				zero = must(t, s, e)
			}
			for range d.n(patience) {
				s, e := pair.Wait(one)
				one = must(t, s, e)
			}
			last, _ = pair.Send(zero)
			s, e := pair.Hear(one, last)
			if one = must(t, s, e); !alike(one, follows(one, last)) {
				t.Fatal(one, last)
			}
		}
		for range patience {
			unsent(t, one, api.ErrOld)
			s, e := pair.Wait(one)
			one = must(t, s, e)
		}
		if !alike(one, api.Side{Me: 1, Active: true, Term: 1, Cycle: last.Cycle, Image: last.Image, Patience: patience}) {
			t.Fatal(one, last)
		}
		does(t, one, []int{last.Image[0] + 1}, api.Side{Me: 1, Active: true, Term: 1, Cycle: last.Cycle + 1, Image: []int{last.Image[0] + 1}, Patience: patience}, api.OK)
	}
}
