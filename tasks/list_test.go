package tasks_test

import (
	"math"
	"reflect"
	"testing"

	"plantwright/api"
	"plantwright/tasks"
)

func TestHowMany(t *testing.T) {
	refused(t, nil, api.ErrSize, 0)
	refused(t, []api.Task{}, api.ErrSize, 0)
	refused(t, many(api.MaxTasks+1), api.ErrSize, 0)
	refused(t, many(100000), api.ErrSize, 0)
	for n := 1; n <= api.MaxTasks; n++ {
		taken(t, many(n))
		if r, f := tasks.Respond(many(n)); f != (api.Fault{}) || len(r) != n {
			t.Error(n, r, f)
		}
	}
}

// What a task may be, at the edges of each field.
func TestEdges(t *testing.T) {
	for _, s := range []string{
		"1 1 1", "1 1 1 0", "1 1 1 1", "10 1 1", "10 10 10", "10 10 1", "10 1 10", "10 5 5 0", "10 5 5 1000000",
		"1000000 1 1", "1000000 1000000 1000000 1000000", "999999 999999 999999 999999",
	} {
		taken(t, list(s))
	}
	for _, s := range []string{
		"0 0 0", "0 1 1", "-1 1 1", "-1 -1 -1", "1000001 1 1", "1000001 1000001 1000001",
		"10 0 5", "10 -1 5", "10 11 5", "1 2 1", "1000000 1000001 5",
		"10 5 0", "10 5 -1", "10 5 11", "1 1 2", "1000000 5 1000001",
		"10 5 5 -1", "10 5 5 1000001", "1 1 1 -1000000",
	} {
		refused(t, list(s), api.ErrPlan, 0)
		refused(t, append(many(3), list(s)...), api.ErrPlan, 3)
	}
}

// Numbers of any size, in each field.
func TestStrangeNumbers(t *testing.T) {
	for _, n := range []int{math.MinInt, math.MinInt + 1, -1 << 32, 1 << 32, math.MaxInt - 1, math.MaxInt} {
		for _, strange := range []api.Task{
			{Period: n, Cost: 1, Deadline: 1}, {Period: 9, Cost: n, Deadline: 1}, {Period: 9, Cost: 1, Deadline: n},
			{Period: 9, Cost: 1, Deadline: 1, Offset: n}, {Period: n, Cost: n, Deadline: n, Offset: n},
		} {
			refused(t, []api.Task{strange}, api.ErrPlan, 0)
			refused(t, append(many(1), strange), api.ErrPlan, 1)
		}
	}
	refused(t, make([]api.Task, 3), api.ErrPlan, 0)
}

// The first task that is none is told, and what is wrong with the list's length ahead of it; that tasks are late is told behind both.
func TestFirstFault(t *testing.T) {
	none := list("0 0 0")
	refused(t, append(append(many(2), none...), none...), api.ErrPlan, 2)
	refused(t, append(many(15), none...), api.ErrPlan, 15)
	refused(t, append(none, many(15)...), api.ErrPlan, 0)
	refused(t, append(many(16), none...), api.ErrSize, 0)
	refused(t, append(none, many(16)...), api.ErrSize, 0)
	slow := list("4 4 4, 4 4 4")
	late(t, slow, 1)
	lateOrder(t, slow, 1)
	refused(t, append(slow, none...), api.ErrPlan, 2)
	refused(t, list("10 5 4, 10 5 11"), api.ErrPlan, 1)
	refused(t, list("9 1 9, 8 1 9, 7 1 7"), api.ErrPlan, 1) // places are those of the list, not of the order
	refused(t, list("9 1 9, 8 9 1, 7 1 0"), api.ErrPlan, 1)
}

func TestNames(t *testing.T) {
	l := list("4 1 4, 6 2 6, 12 3 12, 12 1 12 5")
	r, _ := tasks.Respond(l)
	o, _ := tasks.Order(l)
	p, _ := tasks.Play(l, 40)
	for _, names := range [][]string{{"z", "y", "x", "w"}, {"p", "p", "p", "p"}, {"", "end_if", "\xff\x00", "%1"}} {
		named := list("4 1 4, 6 2 6, 12 3 12, 12 1 12 5")
		for i := range named {
			named[i].Name = names[i]
		}
		responds(t, named, r...)
		orders(t, named, o...)
		if got, f := tasks.Play(named, 40); f != (api.Fault{}) || !reflect.DeepEqual(got, p) {
			t.Error(names, got, f)
		}
	}
}
