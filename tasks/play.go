package tasks

import (
	"cmp"
	"iter"
	"slices"

	"plantwright/api"
)

// job: of which task, which of its jobs, from when on it may run, and how long it still has to.
type job struct {
	task    int
	number  int
	release int
	left    int
}

// jobs: those of all tasks, without end, in the order of their releases.
func jobs(l []api.Task) iter.Seq[job] {
	return func(yield func(job) bool) {
		var next []job
		for i, t := range l {
			next = append(next, job{task: i, release: t.Offset, left: t.Cost})
		}
		for {
			first := slices.MinFunc(next, func(a, b job) int { return cmp.Compare(a.release, b.release) })
			if !yield(first) {
				return
			}
			next[first.task].number++
			next[first.task].release += l[first.task].Period
		}
	}
}

// processor does jobs. Those that were released and are not done wait in a queue for each task: there may be so many that to look at all of them each time would take too long.
type processor struct {
	now    int
	queues [][]job
	played []api.Slice
}

// workTo: up to a moment ahead of which no job comes any more.
func (p *processor) workTo(end int) {
	for p.now < end {
		task := slices.IndexFunc(p.queues, func(queue []job) bool { return len(queue) > 0 })
		if task < 0 {
			p.now = end
			return
		}
		p.work(task, end)
	}
}

// work does a task's first job, till it is done or the end has come.
func (p *processor) work(task, end int) {
	j := &p.queues[task][0]
	span := min(j.left, end-p.now)
	p.put(api.Slice{Task: task, Job: j.number, From: p.now, To: p.now + span})
	p.now += span
	j.left -= span
	if j.left == 0 {
		p.queues[task] = p.queues[task][1:]
	}
}

// put: a job that goes on when another one has come that waits had no break.
func (p *processor) put(s api.Slice) {
	if n := len(p.played); n > 0 && p.played[n-1].Task == s.Task && p.played[n-1].Job == s.Job {
		p.played[n-1].To = s.To
		return
	}
	p.played = append(p.played, s)
}
