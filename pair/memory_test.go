package pair_test

import (
	"fmt"
	"slices"
	"strings"
	"testing"

	"plantwright/api"
	"plantwright/pair"
)

// roomy: the same list, with room behind it that is not nothing.
func roomy(l []int) []int {
	out := append(slices.Clone(l), slices.Repeat([]int{66}, 50)...)
	return out[:len(l)]
}

// whole: all that lists have, their spare room too, as a text.
func whole(lists ...[]int) string {
	var s strings.Builder
	for _, l := range lists {
		fmt.Fprint(&s, len(l), l[:cap(l)])
	}
	return s.String()
}

// spoil writes over all of some lists, their spare room too.
func spoil(lists ...[]int) {
	for _, l := range lists {
		l = l[:cap(l)]
		for i := range l {
			l[i] = 77
		}
	}
}

// someSides: of all kinds, at their beginning and at their end, and some that may not be.
func someSides() []api.Side {
	return append(kinds(),
		api.Side{Patience: 1, Active: true, Image: []int{}}, api.Side{Me: 1, Patience: 1}, api.Side{Me: 1, Patience: 1, Term: api.MaxTerm, Image: []int{1}},
		api.Side{Patience: 1, Active: true, Cycle: api.MaxCycle, Image: []int{1}}, with(waiting(1), func(s *api.Side) { s.Silent = 3 }), api.Side{Me: 1, Active: true, Patience: 1, Image: many(300)},
		api.Side{}, api.Side{Image: []int{1, 2}}, with(active(0), func(s *api.Side) { s.Silent = 1 }), with(waiting(1), func(s *api.Side) { s.Silent = 4 }),
		with(active(0), func(s *api.Side) { s.Image = many(api.MaxFrame + 1) }),
	)
}

// someBeats: beats that count for some of these, others that do not, and some that may not be.
func someBeats() []api.Beat {
	return []api.Beat{{}, beat(0, 3, 9, 7, 8), beat(1, 3, 9, 7, 8), beat(0, 4, 1), beat(1, 4, 1, many(300)...), beat(1, 3, 8, 7), beat(0, 2, 9, 7), beat(2, 4, 9, 7), beat(1, 4, 9, many(api.MaxFrame+1)...)}
}

func someImages() [][]int {
	return [][]int{nil, {}, {3}, {1, 2, 3}, many(300), many(api.MaxFrame + 1)}
}

// answers: what all calls tell.
type answers struct {
	start, heard, waited, done api.Side
	sent                       api.Beat
	code                       [5]api.Errno
}

func ask(s api.Side, b api.Beat, image []int) answers {
	var a answers
	a.start, a.code[0] = pair.Start(s.Me, s.Patience, image)
	a.sent, a.code[1] = pair.Send(s)
	a.heard, a.code[2] = pair.Hear(s, b)
	a.waited, a.code[3] = pair.Wait(s)
	a.done, a.code[4] = pair.Done(s, image)
	return a
}

// lists: all of an answer.
func (a answers) lists() [][]int {
	return [][]int{a.start.Image, a.sent.Image, a.heard.Image, a.waited.Image, a.done.Image}
}

// tries goes through all of these together.
func tries(try func(s api.Side, b api.Beat, image []int)) {
	for _, s := range someSides() {
		for i, b := range someBeats() {
			try(s, b, someImages()[i%len(someImages())])
		}
		for _, image := range someImages() {
			try(s, beat(1-s.Me, 4, 9, 7, 8), image)
		}
	}
}

// What is handed in is not changed, its spare room neither; and what lies there is not looked at.
func TestArgumentsStay(t *testing.T) {
	tries(func(s api.Side, b api.Beat, image []int) {
		rs, rb, ri := s, b, roomy(image)
		rs.Image, rb.Image = roomy(s.Image), roomy(b.Image)
		given := whole(rs.Image, rb.Image, ri)
		got := fmt.Sprint(ask(rs, rb, ri))
		if whole(rs.Image, rb.Image, ri) != given {
			t.Fatalf("changed: %v, %v, %v", brief(s), brief(b), brief(image))
		}
		s.Image, b.Image = slices.Clip(s.Image), slices.Clip(b.Image)
		if got != fmt.Sprint(ask(s, b, slices.Clip(image))) {
			t.Fatalf("spare room counts: %v, %v, %v", brief(s), brief(b), brief(image))
		}
	})
}

// What is written into an answer, its spare room too, is seen neither in what was handed in nor in another answer, whether there is an error or not; and what was handed in is not kept.
func TestAnswersAreNew(t *testing.T) {
	tries(func(s api.Side, b api.Beat, image []int) {
		s.Image, b.Image, image = roomy(s.Image), roomy(b.Image), roomy(image)
		given := whole(s.Image, b.Image, image)
		one, two := ask(s, b, image), ask(s, b, image)
		told := whole(two.lists()...)
		spoil(one.lists()...)
		if whole(s.Image, b.Image, image) != given || whole(two.lists()...) != told {
			t.Fatalf("%v, %v, %v: an answer shares memory", brief(s), brief(b), brief(image))
		}
		spoil(s.Image, b.Image, image)
		if whole(two.lists()...) != told {
			t.Fatalf("%v, %v, %v: a list was kept", brief(s), brief(b), brief(image))
		}
		lists := two.lists()
		for i := range lists {
			others := whole(lists[i+1:]...)
			spoil(lists[i])
			if whole(lists[i+1:]...) != others {
				t.Fatalf("%v, %v, %v: two answers share memory", brief(s), brief(b), brief(image))
			}
		}
	})
}

// The image of a side, of a beat and of a cycle may be one and the same memory.
func TestOneListTwice(t *testing.T) {
	list := []int{4, 5, 6}
	s := api.Side{Me: 1, Patience: 1, Image: list}
	hears(t, s, beat(0, 0, 1, list[:2]...), api.Side{Me: 1, Patience: 1, Cycle: 1, Image: []int{4, 5}}, api.OK)
	s.Active = true
	does(t, s, list[1:], api.Side{Me: 1, Active: true, Patience: 1, Cycle: 1, Image: []int{5, 6}}, api.OK)
	if got, e := pair.Done(s, list[:1]); e != api.OK || !slices.Equal(got.Image, []int{4}) {
		t.Error(got, e)
	}
	if !slices.Equal(list, []int{4, 5, 6}) {
		t.Error(list)
	}
}

// An answer hangs on no call ahead of it.
func TestNothingIsKept(t *testing.T) {
	all := func() string {
		var s strings.Builder
		tries(func(side api.Side, b api.Beat, image []int) { fmt.Fprint(&s, ask(side, b, image)) })
		return s.String()
	}
	first := all()
	for range 3 {
		if all() != first {
			t.Error("it is not as it was")
		}
	}
}
