package code

import "plantwright/api"

// mayLoops: does each loop have one beginning and one end, and do they lie apart or within one another?
func (o *overseer) mayLoops() bool {
	return o.mayRounds() && o.nest()
}

// mayRounds: does each Round go back to an Enter of its counter, and one alone to each Enter?
func (o *overseer) mayRounds() bool {
	text := o.proc.Text
	rounds := make([]int, len(text))
	for i, x := range text {
		if x.Do != api.Round {
			continue
		}
		if !isWithin(x.B, 1, i) || text[x.B-1].Do != api.Enter || text[x.B-1].A != x.A {
			return false
		}
		rounds[x.B-1]++
	}
	for i, x := range text {
		if x.Do == api.Enter && rounds[i] != 1 {
			return false
		}
	}
	return true
}

// nest goes in and out of loops, from the first instruction to the last.
func (o *overseer) nest() bool {
	text := o.proc.Text
	o.begins = make([]int, len(text)+1)
	o.times = make([]int, len(text))
	var counters [api.MaxLoops]bool
	open := []int{0}
	times := []int{1}
	for i, x := range text {
		if i > 0 && text[i-1].Do == api.Enter {
			e := text[i-1]
			if counters[e.A] {
				return false
			}
			counters[e.A] = true
			open = append(open, i)
			times = append(times, capped(times[len(times)-1]*e.B))
		}
		last := len(open) - 1
		o.begins[i], o.times[i] = open[last], times[last]
		if x.Do == api.Round {
			if open[last] != x.B {
				return false
			}
			counters[x.A] = false
			open, times = open[:last], times[:last]
		}
	}
	return true
}

// mayJumps: does none go into a loop? As all go forward, the innermost loop at the end of one has to begin no later than it stands.
func (o *overseer) mayJumps() bool {
	for i, x := range o.proc.Text {
		if (x.Do == api.Jump || x.Do == api.Fall) && o.begins[x.A] > i {
			return false
		}
	}
	return true
}
