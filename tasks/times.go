package tasks

import (
	"cmp"
	"slices"

	"plantwright/api"
)

// lookAt: the fault of a list of tasks.
func lookAt(l []api.Task) api.Fault {
	if !isWithin(len(l), 1, api.MaxTasks) {
		return api.Fault{Code: api.ErrSize}
	}
	for i, t := range l {
		if !mayBe(t) {
			return api.Fault{Code: api.ErrPlan, Unit: i}
		}
	}
	return api.Fault{}
}

func mayBe(t api.Task) bool {
	return isWithin(t.Period, 1, api.MaxPeriod) && isWithin(t.Offset, 0, api.MaxPeriod) &&
		isWithin(t.Cost, 1, t.Period) && isWithin(t.Deadline, 1, t.Period)
}

func isWithin(n, low, high int) bool {
	return low <= n && n <= high
}

// reply: how long a job of a task takes at most, with those ahead of it; false: longer than its Deadline.
func reply(t api.Task, ahead []api.Task) (int, bool) {
	// A longer span never needs less: so tries grow, none passes over the answer, and the first that holds is the least.
	for try := t.Cost; try <= t.Deadline; {
		need := t.Cost + taken(ahead, try)
		if need == try {
			return try, true
		}
		try = need
	}
	return 0, false
}

// taken: how long tasks run, if all of them are released when a span begins, and as often as they can be within it.
func taken(l []api.Task, span int) int {
	sum := 0
	for _, t := range l {
		sum += t.Cost * dividedUp(span, t.Period)
	}
	return sum
}

func dividedUp(n, by int) int {
	return (n + by - 1) / by
}

// byDeadline: the places of tasks, those that have the least time first.
func byDeadline(l []api.Task) []int {
	var places []int
	for i := range l {
		places = append(places, i)
	}
	slices.SortStableFunc(places, func(a, b int) int {
		return cmp.Compare(l[a].Deadline, l[b].Deadline)
	})
	return places
}
