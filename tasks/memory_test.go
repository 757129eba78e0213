package tasks_test

import (
	"fmt"
	"slices"
	"testing"

	"plantwright/api"
	"plantwright/tasks"
)

// roomy: the same list, with three places behind it, which are not nothing.
func roomy[T any](l []T, spare T) []T {
	out := append(slices.Clone(l), spare, spare, spare)
	return out[:len(l)]
}

// whole: all that a list has, its spare room too, as a text.
func whole[T any](l []T) string {
	return fmt.Sprint(len(l), l[:cap(l)])
}

// spoil writes over all of a list, its spare room too.
func spoil[T any](l []T, with T) {
	l = l[:cap(l)]
	for i := range l {
		l[i] = with
	}
}

// of each kind: in order, to be ordered, late, wrong.
var lists = []string{"4 1 4, 6 2 6, 12 3 12", "12 3 12 2, 6 2 6, 4 1 4 1", "9 5 9, 9 5 8", "9 1 9, 9 5 10, 9 1 1"}

var spare = api.Task{Name: "spare", Period: 42, Cost: 42, Deadline: 42, Offset: 42}

// What is handed in is not changed, its spare room neither; and what lies there is not looked at.
func TestArgumentsStay(t *testing.T) {
	for _, s := range lists {
		l := roomy(list(s), spare)
		before := whole(l)
		r1, f1 := tasks.Respond(l)
		o1, g1 := tasks.Order(l)
		p1, h1 := tasks.Play(l, 30)
		if whole(l) != before {
			t.Errorf("%s: changed: %s, not %s", s, whole(l), before)
		}
		l = list(s)
		r2, f2 := tasks.Respond(l)
		o2, g2 := tasks.Order(l)
		p2, h2 := tasks.Play(l, 30)
		if fmt.Sprint(r1, f1, o1, g1, p1, h1) != fmt.Sprint(r2, f2, o2, g2, p2, h2) {
			t.Errorf("%s: spare room counts", s)
		}
	}
	c := programs(3, 4)
	c.Procs = roomy(c.Procs, api.Proc{Name: "spare"})
	before := whole(c.Procs)
	tasks.Weigh(c, 1, 5)
	if whole(c.Procs) != before {
		t.Error("Weigh changed it")
	}
}

// What is written into an answer, its spare room too, is seen neither in what was handed in nor in another answer; what is handed in may change behind a call.
func TestAnswersAreNew(t *testing.T) {
	l := roomy(list("12 3 12 2, 6 2 6, 4 1 4 1, 12 1 10"), spare)
	before := whole(l)
	r1, _ := tasks.Respond(l[1:2])
	r2, _ := tasks.Respond(l[1:2])
	o1, _ := tasks.Order(l)
	o2, _ := tasks.Order(l)
	p1, _ := tasks.Play(l, 30)
	p2, _ := tasks.Play(l, 30)
	if len(r2) != 1 || len(o2) != 4 || len(p2) < 10 {
		t.Fatal(r2, o2, p2)
	}
	answers := whole(r2) + whole(o2) + whole(p2)
	spoil(r1, 77)
	spoil(o1, 77)
	spoil(p1, api.Slice{Task: 77, Job: 77, From: 77, To: 77})
	if whole(l) != before || whole(r2)+whole(o2)+whole(p2) != answers {
		t.Error("an answer shares memory")
	}
	spoil(l, spare)
	if whole(r2)+whole(o2)+whole(p2) != answers {
		t.Error("a list was kept")
	}
}

// An answer hangs on no call ahead of it.
func TestNothingIsKept(t *testing.T) {
	tell := func() string {
		s := ""
		for _, x := range lists {
			r, f := tasks.Respond(list(x))
			o, g := tasks.Order(list(x))
			p, h := tasks.Play(list(x), 50)
			s += fmt.Sprint(r, f, o, g, p, h)
		}
		return s
	}
	first := tell()
	for range 3 {
		if tell() != first {
			t.Error("it is not as it was")
		}
	}
}
