package tasks_test

import (
	"fmt"
	"slices"
	"strings"
	"testing"

	"plantwright/api"
	"plantwright/tasks"
)

// die gives numbers that look drawn, the same each time.
type die uint64

func (d *die) n(most int) int {
	*d = *d*6364136223846793005 + 1442695040888963407
	return int(uint64(*d>>33) % uint64(most))
}

// list: tasks that are written as "Period Cost Deadline" or "Period Cost Deadline Offset", with commas between them.
func list(s string) []api.Task {
	var l []api.Task
	for _, x := range strings.Split(s, ",") {
		var t api.Task
		if n, _ := fmt.Sscan(x, &t.Period, &t.Cost, &t.Deadline, &t.Offset); n < 3 {
			panic(s)
		}
		l = append(l, t)
	}
	return l
}

// many: so many tasks that may be.
func many(n int) []api.Task {
	return slices.Repeat(list("100 1 100"), n)
}

// stretches: slices that are written as "Task.Job From-To", with commas between them.
func stretches(s string) []api.Slice {
	var l []api.Slice
	if s == "" {
		return l
	}
	for _, x := range strings.Split(s, ",") {
		var p api.Slice
		if n, _ := fmt.Sscanf(strings.TrimSpace(x), "%d.%d %d-%d", &p.Task, &p.Job, &p.From, &p.To); n < 4 {
			panic(s)
		}
		l = append(l, p)
	}
	return l
}

// responds: does Respond tell these numbers of a list that is in time?
func responds(t *testing.T, l []api.Task, want ...int) {
	t.Helper()
	if got, f := tasks.Respond(l); f != (api.Fault{}) || !slices.Equal(got, want) {
		t.Errorf("Respond(%v): %v, %v, not %v", l, got, f, want)
	}
}

// orders: does Order tell these places?
func orders(t *testing.T, l []api.Task, want ...int) {
	t.Helper()
	if got, f := tasks.Order(l); f != (api.Fault{}) || !slices.Equal(got, want) {
		t.Errorf("Order(%v): %v, %v, not %v", l, got, f, want)
	}
}

// plays: does Play tell these slices?
func plays(t *testing.T, l []api.Task, until int, want string) {
	t.Helper()
	if got, f := tasks.Play(l, until); f != (api.Fault{}) || !slices.Equal(got, stretches(want)) {
		t.Errorf("Play(%v, %d): %v, %v, not %s", l, until, got, f, want)
	}
}

// late: does Respond tell nothing but ErrSlow, with that place?
func late(t *testing.T, l []api.Task, unit int) {
	t.Helper()
	if got, f := tasks.Respond(l); f != (api.Fault{Code: api.ErrSlow, Unit: unit}) || len(got) > 0 {
		t.Errorf("Respond(%v): %v, %v, not ErrSlow of %d", l, got, f, unit)
	}
}

// lateOrder: likewise, of Order.
func lateOrder(t *testing.T, l []api.Task, unit int) {
	t.Helper()
	if got, f := tasks.Order(l); f != (api.Fault{Code: api.ErrSlow, Unit: unit}) || len(got) > 0 {
		t.Errorf("Order(%v): %v, %v, not ErrSlow of %d", l, got, f, unit)
	}
}

// refused: do all calls that take a list tell nothing but this fault?
func refused(t *testing.T, l []api.Task, code api.Errno, unit int) {
	t.Helper()
	want := api.Fault{Code: code, Unit: unit}
	if got, f := tasks.Respond(l); f != want || len(got) > 0 {
		t.Errorf("Respond(%v): %v, %v, not %v", l, got, f, want)
	}
	if got, f := tasks.Order(l); f != want || len(got) > 0 {
		t.Errorf("Order(%v): %v, %v, not %v", l, got, f, want)
	}
	for _, until := range []int{-1, 0, 5, api.MaxSpan, api.MaxSpan + 1} {
		if got, f := tasks.Play(l, until); f != want || len(got) > 0 {
			t.Errorf("Play(%v, %d): %v, %v, not %v", l, until, got, f, want)
		}
	}
}

// taken: does no call that takes a list refuse it, but that its tasks may be late?
func taken(t *testing.T, l []api.Task) {
	t.Helper()
	if _, f := tasks.Respond(l); f.Code != api.OK && f.Code != api.ErrSlow {
		t.Errorf("Respond(%v): %v", l, f)
	}
	if _, f := tasks.Order(l); f.Code != api.OK && f.Code != api.ErrSlow {
		t.Errorf("Order(%v): %v", l, f)
	}
	if _, f := tasks.Play(l, 30); f.Code != api.OK {
		t.Errorf("Play(%v, 30): %v", l, f)
	}
}

// drawn: tasks that may be; how busy they keep the processor differs.
func drawn(d *die, most, period int) []api.Task {
	part := 1 + d.n(6)
	var l []api.Task
	for range 1 + d.n(most) {
		p := 1 + d.n(period)
		deadline := p
		if d.n(2) == 0 {
			deadline = 1 + d.n(p)
		}
		l = append(l, api.Task{Period: p, Cost: 1 + d.n(1+(p-1)/part), Deadline: deadline, Offset: d.n(2) * d.n(period)})
	}
	return l
}
