package tasks_test

import (
	"cmp"
	"slices"
	"testing"

	"plantwright/api"
	"plantwright/tasks"
)

func TestOrder(t *testing.T) {
	orders(t, list("4 1 4, 6 2 6, 12 3 12"), 0, 1, 2)
	orders(t, list("12 3 12, 6 2 6, 4 1 4"), 2, 1, 0)
	orders(t, list("6 2 6, 12 3 12, 4 1 4"), 2, 0, 1)
	orders(t, list("12 3 12, 4 1 3"), 1, 0)
	orders(t, list("1 1 1"), 0)
	orders(t, list("9 1 9, 100 2 3, 50 1 1"), 2, 1, 0) // Deadlines, not Periods
	orders(t, list("9 3 9, 9 1 8, 9 2 7"), 2, 1, 0)    // nor Costs
	orders(t, list("9 1 9 0, 9 1 8 1, 9 1 7 2"), 2, 1, 0)
	orders(t, list("1000000 1 1000000, 1000000 1 999999"), 1, 0)
}

// Those with the same Deadline stand by their places.
func TestSameDeadline(t *testing.T) {
	orders(t, list("9 1 5, 8 1 5, 7 1 5"), 0, 1, 2)
	orders(t, list("9 2 5, 8 1 5, 7 1 4, 9 1 5"), 2, 0, 1, 3)
	var want []int
	for i := range api.MaxTasks {
		want = append(want, i)
	}
	orders(t, many(api.MaxTasks), want...)
	l := many(api.MaxTasks)
	for i := range l {
		l[i].Deadline = 99 + i%2
	}
	orders(t, l, 0, 2, 4, 6, 8, 10, 12, 14, 1, 3, 5, 7, 9, 11, 13, 15)
}

// The place of a task that is late is that of the list, not of the order.
func TestLateInOrder(t *testing.T) {
	lateOrder(t, list("9 5 4"), 0)
	lateOrder(t, list("9 5 9, 9 5 8"), 0)
	lateOrder(t, list("9 5 8, 9 5 9"), 1)
	lateOrder(t, list("9 1 9, 9 5 4, 9 1 8"), 1)
	lateOrder(t, list("9 5 4, 9 1 9, 9 1 1"), 0)
	lateOrder(t, list("9 9 9, 9 1 9, 9 8 8, 9 1 8"), 3)
	lateOrder(t, list("4 4 4, 4 4 4, 4 4 4"), 1)
	lateOrder(t, list("20 3 20, 20 9 8, 20 9 7"), 2)
	lateOrder(t, append(many(15), list("100 90 99")...), 10)
}

// reordered: the tasks of these places.
func reordered(l []api.Task, places []int) []api.Task {
	var out []api.Task
	for _, p := range places {
		out = append(out, l[p])
	}
	return out
}

// isPossible: is there an order, of all that begin with these places, in which Respond tells no fault?
func isPossible(l []api.Task, places []int) bool {
	if len(places) == len(l) {
		_, f := tasks.Respond(reordered(l, places))
		return f.Code == api.OK
	}
	for i := range l {
		if !slices.Contains(places, i) && isPossible(l, append(slices.Clone(places), i)) {
			return true
		}
	}
	return false
}

// Order tells the places by Deadline, then by place; it finds an order if there is any.
func TestBestOrder(t *testing.T) {
	d := die(3)
	found, none, turned := 0, 0, 0
	for range 5000 {
		l := drawn(&d, 5, []int{8, 40, 200}[d.n(3)])
		want := make([]int, len(l))
		for i := range want {
			want[i] = i
		}
		slices.SortFunc(want, func(a, b int) int {
			return cmp.Or(cmp.Compare(l[a].Deadline, l[b].Deadline), cmp.Compare(a, b))
		})
		if isPossible(l, nil) {
			orders(t, l, want...)
			found++
			if !slices.IsSorted(want) {
				turned++
			}
			continue
		}
		_, f := tasks.Respond(reordered(l, want))
		lateOrder(t, l, want[f.Unit])
		none++
	}
	if found < 500 || none < 500 || turned < 200 {
		t.Error("too few of each kind: ", found, none, turned)
	}
}
