package tasks_test

import (
	"math"
	"reflect"
	"testing"

	"plantwright/api"
	"plantwright/tasks"
)

func TestPlay(t *testing.T) {
	l := list("4 1 4, 6 2 6, 12 3 12") // the document's example
	plays(t, l, 10, "0.0 0-1, 1.0 1-3, 2.0 3-4, 0.1 4-5, 2.0 5-6, 1.1 6-8, 0.2 8-9, 2.0 9-10")
	plays(t, l, 18, "0.0 0-1, 1.0 1-3, 2.0 3-4, 0.1 4-5, 2.0 5-6, 1.1 6-8, 0.2 8-9, 2.0 9-10, 0.3 12-13, 1.2 13-15, 2.1 15-16, 0.4 16-17, 2.1 17-18")
	plays(t, list("12 3 12, 4 1 4"), 13, "0.0 0-3, 1.0 3-4, 1.1 4-5, 1.2 8-9, 0.1 12-13")
	plays(t, list("5 2 5"), 12, "0.0 0-2, 0.1 5-7, 0.2 10-12")
}

// What runs at the end is cut there.
func TestUntil(t *testing.T) {
	l := list("5 3 5, 20 4 20")
	for until, want := range []string{
		"", "0.0 0-1", "0.0 0-2", "0.0 0-3", "0.0 0-3, 1.0 3-4", "0.0 0-3, 1.0 3-5", "0.0 0-3, 1.0 3-5, 0.1 5-6",
		"0.0 0-3, 1.0 3-5, 0.1 5-7", "0.0 0-3, 1.0 3-5, 0.1 5-8", "0.0 0-3, 1.0 3-5, 0.1 5-8, 1.0 8-9",
		"0.0 0-3, 1.0 3-5, 0.1 5-8, 1.0 8-10", "0.0 0-3, 1.0 3-5, 0.1 5-8, 1.0 8-10, 0.2 10-11",
	} {
		plays(t, l, until, want)
	}
}

func TestSpan(t *testing.T) {
	l := list("1000000 1000000 1000000")
	plays(t, l, 0, "")
	plays(t, l, 1, "0.0 0-1")
	plays(t, l, api.MaxSpan-1, "0.0 0-19999")
	plays(t, l, api.MaxSpan, "0.0 0-20000")
	for _, until := range []int{-1, -2, api.MaxSpan + 1, math.MinInt, math.MaxInt} {
		for _, x := range [][]api.Task{l, many(16), list("3 3 3, 3 3 3")} { // tasks that are late are played as well
			if s, f := tasks.Play(x, until); f != (api.Fault{Code: api.ErrSize}) || len(s) > 0 {
				t.Error(until, s, f)
			}
		}
	}
}

func TestOffsets(t *testing.T) {
	plays(t, list("5 2 5 3"), 15, "0.0 3-5, 0.1 8-10, 0.2 13-15")
	plays(t, list("5 2 5 3"), 3, "")
	plays(t, list("5 2 5 3"), 4, "0.0 3-4")
	plays(t, list("10 2 10 4, 10 5 10"), 14, "1.0 0-4, 0.0 4-6, 1.0 6-7, 1.1 10-14")
	plays(t, list("10 2 10 4, 10 5 10"), 17, "1.0 0-4, 0.0 4-6, 1.0 6-7, 1.1 10-14, 0.1 14-16, 1.1 16-17")
	plays(t, list("3 1 3 7"), 20, "0.0 7-8, 0.1 10-11, 0.2 13-14, 0.3 16-17, 0.4 19-20") // an Offset above the Period
	plays(t, list("1 1 1 1000000"), api.MaxSpan, "")
	plays(t, list("1 1 1 1000000, 1000000 1 1 19999"), api.MaxSpan, "1.0 19999-20000")
	plays(t, list("1000000 9 9 19999, 1000000 1 1 20000"), api.MaxSpan, "0.0 19999-20000")
}

// A job that goes on when one comes that has to wait is in one stretch; a job of its own task has a stretch of its own, even if nothing lies between.
func TestStretches(t *testing.T) {
	plays(t, list("20 9 20, 20 1 20 3, 20 1 20 5"), 12, "0.0 0-9, 1.0 9-10, 2.0 10-11")
	plays(t, list("3 3 3"), 10, "0.0 0-3, 0.1 3-6, 0.2 6-9, 0.3 9-10")
	plays(t, list("1 1 1"), 3, "0.0 0-1, 0.1 1-2, 0.2 2-3")
	plays(t, list("20 4 20 4, 20 8 20"), 20, "1.0 0-4, 0.0 4-8, 1.0 8-12")
	plays(t, list("4 2 4, 2 1 2"), 8, "0.0 0-2, 1.0 2-3, 1.1 3-4, 0.1 4-6, 1.2 6-7, 1.3 7-8")
	plays(t, list("9 1 9 2, 20 2 20, 20 2 20"), 5, "1.0 0-2, 0.0 2-3, 2.0 3-5") // one that ends when another comes
}

// A job that is late goes on; the next one of its task waits for it.
func TestLateGoesOn(t *testing.T) {
	plays(t, list("9 5 1"), 10, "0.0 0-5, 0.1 9-10")
	plays(t, list("10 8 10, 4 3 4"), 30, "0.0 0-8, 1.0 8-10, 0.1 10-18, 1.0 18-19, 1.1 19-20, 0.2 20-28, 1.1 28-30")
	plays(t, list("4 2 4, 3 2 3"), 13, "0.0 0-2, 1.0 2-4, 0.1 4-6, 1.1 6-8, 0.2 8-10, 1.2 10-12, 0.3 12-13")
	plays(t, list("6 1 6 5, 2 2 2"), 9, "1.0 0-2, 1.1 2-4, 1.2 4-5, 0.0 5-6, 1.2 6-7, 1.3 7-9")
	plays(t, list("1 1 1, 1 1 1, 1000000 1 1"), 4, "0.0 0-1, 0.1 1-2, 0.2 2-3, 0.3 3-4")
}

// modelPlay: microsecond by microsecond; of all jobs each time, the first one of the first task that was released and is not done.
func modelPlay(l []api.Task, until int) []api.Slice {
	var out []api.Slice
	done := map[[2]int]int{}
	for n := range until {
		for i, t := range l {
			k := 0
			for done[[2]int{i, k}] == t.Cost {
				k++
			}
			if t.Offset+k*t.Period > n {
				continue
			}
			done[[2]int{i, k}]++
			if last := len(out) - 1; last >= 0 && out[last].Task == i && out[last].Job == k {
				out[last].To = n + 1
			} else {
				out = append(out, api.Slice{Task: i, Job: k, From: n, To: n + 1})
			}
			break
		}
	}
	return out
}

func TestPlayModel(t *testing.T) {
	d := die(4)
	for range 3000 {
		l := drawn(&d, 6, []int{4, 12, 60}[d.n(3)])
		until := d.n(150)
		want := modelPlay(l, until)
		got, f := tasks.Play(l, until)
		if f != (api.Fault{}) || len(got) != len(want) || len(want) > 0 && !reflect.DeepEqual(got, want) {
			t.Fatalf("Play(%v, %d): %v, %v, not %v", l, until, got, f, want)
		}
	}
}

// What is played up to a moment is what is played up to a later one, cut there.
func TestPlayCut(t *testing.T) {
	d := die(5)
	for range 300 {
		l := drawn(&d, 6, 30)
		until := 1 + d.n(100)
		whole, _ := tasks.Play(l, until)
		for cut := range until {
			var want []api.Slice
			for _, s := range whole {
				if s.From < cut {
					s.To = min(s.To, cut)
					want = append(want, s)
				}
			}
			got, f := tasks.Play(l, cut)
			if f != (api.Fault{}) || len(got) != len(want) || len(want) > 0 && !reflect.DeepEqual(got, want) {
				t.Fatalf("Play(%v, %d): %v, not %v", l, cut, got, want)
			}
		}
	}
}

// No job takes longer than Respond tells; the first of each task, where no task has an Offset, just so long.
func TestPlayedInTime(t *testing.T) {
	d := die(6)
	judged, first := 0, 0
	for range 6000 {
		l := drawn(&d, 5, 60)
		together := d.n(2) == 0
		for i := range l {
			if together {
				l[i].Offset = 0
			}
		}
		replies, f := tasks.Respond(l)
		if f.Code != api.OK {
			continue
		}
		played, _ := tasks.Play(l, 1000)
		work, ends := map[[2]int]int{}, map[[2]int]int{}
		for _, s := range played {
			id := [2]int{s.Task, s.Job}
			work[id] += s.To - s.From
			ends[id] = s.To
		}
		for i, task := range l {
			for k := 0; task.Offset+k*task.Period+replies[i] <= 1000; k++ {
				id := [2]int{i, k}
				took := ends[id] - task.Offset - k*task.Period
				if work[id] != task.Cost || took > replies[i] || took < task.Cost || together && k == 0 && took != replies[i] {
					t.Fatalf("%v: job %v: %d of %d, took %d, Respond tells %d", l, id, work[id], task.Cost, took, replies[i])
				}
				judged++
				if together && k == 0 {
					first++
				}
			}
		}
	}
	if judged < 10000 || first < 1000 {
		t.Error("too few jobs: ", judged, first)
	}
}

// As many jobs as there can be, most of which are never done: a call ends soon all the same.
func TestManyJobs(t *testing.T) {
	l := make([]api.Task, api.MaxTasks)
	for i := range l {
		l[i] = api.Task{Period: 1, Cost: 1, Deadline: 1}
	}
	got, f := tasks.Play(l, api.MaxSpan)
	if f != (api.Fault{}) || len(got) != api.MaxSpan {
		t.Fatal(len(got), f)
	}
	for i, s := range got {
		if s != (api.Slice{Task: 0, Job: i, From: i, To: i + 1}) {
			t.Fatal(i, s)
		}
	}
	l[0] = api.Task{Period: 1000000, Cost: 15000, Deadline: 1}
	got, _ = tasks.Play(l, api.MaxSpan)
	if len(got) != 5001 || got[0] != (api.Slice{To: 15000}) || got[5000] != (api.Slice{Task: 1, Job: 4999, From: 19999, To: 20000}) {
		t.Error(len(got))
	}
}
