package plant

import (
	"plantwright/api"
	"plantwright/bus"
	"plantwright/cell"
	"plantwright/code"
	"plantwright/safety"
)

// hear: what came from the field, and what did not.
func (p *plant) hear(s *api.State, came [][]byte) {
	heard := make([]bool, len(s.Links))
	for _, frame := range came {
		if place, ok := p.take(s, frame); ok {
			heard[place] = true
		}
	}
	for i, l := range s.Links {
		if !heard[i] {
			s.Links[i], _ = bus.Tick(l)
		}
	}
	p.takeTold(s)
}

// take: the place of the link that took a frame; false: none did.
func (p *plant) take(s *api.State, frame []byte) (int, bool) {
	number, _, _, e := bus.Open(frame)
	place, known := p.stations[number]
	if e != api.OK || !known {
		return 0, false
	}
	link, e := bus.Take(s.Links[place], frame)
	if e != api.OK {
		return 0, false
	}
	s.Links[place] = link
	return place, true
}

// takeTold: the globals that stations tell have what the links have.
func (p *plant) takeTold(s *api.State) {
	for i, station := range p.plan.Field {
		words := s.Links[i].Words
		for _, name := range station.Tells {
			kind := p.kindOf(name)
			count := wordsOf(kind)
			s.Values[p.globals[name]] = valueOf(kind, words[:count])
			words = words[count:]
		}
	}
}

// vote: a step of the guard.
func (p *plant) vote(s *api.State, key bool) {
	var told []int
	for _, name := range p.plan.Sensors {
		told = append(told, p.sensed(*s, name))
	}
	s.Trip, _ = safety.Step(p.plan.Guard, s.Trip, told, key)
}

// sensed: what a sensor tells.
func (p *plant) sensed(s api.State, name string) int {
	switch {
	case !s.Links[p.tellers[name]].Fresh:
		return api.Mute
	case s.Values[p.globals[name]] == 1:
		return api.Demand
	}
	return api.Calm
}

// runTasks: the programs whose moment it is.
func (p *plant) runTasks(s *api.State) {
	for i, t := range p.built.Tasks {
		if isMoment(t, s.Now) {
			p.run(s, p.built.Places[i])
		}
	}
}

// isMoment: is a job of a task released at this millisecond?
func isMoment(t api.Task, now int) bool {
	since := now*millisecond - t.Offset
	return since >= 0 && since%t.Period == 0
}

// run: a run of the program at a place of the code; what it shares goes in ahead of it, and out behind it.
func (p *plant) run(s *api.State, place int) {
	slots := p.built.Code.Procs[place].Slots
	for _, slot := range slots {
		if slot.Role == api.Extern {
			s.Frames[place][slot.At] = s.Values[p.globals[slot.Path]]
		}
	}
	ran := code.Run(p.built.Code, place, s.Frames[place], s.Now)
	s.Frames[place] = ran.Frame
	s.Faults = min(s.Faults+ran.Faults, api.MaxNumber)
	for _, slot := range slots {
		if slot.Role == api.Extern {
			p.giveOut(s, slot.Path, ran.Frame[slot.At])
		}
	}
}

// giveOut: a global that programs write has what one of them left behind.
func (p *plant) giveOut(s *api.State, name string, value int) {
	place := p.globals[name]
	g := p.plan.Globals[place]
	if g.Dir == api.ToField || g.Dir == api.Memory {
		s.Values[place] = cell.Wrap(g.Kind, value)
	}
}

// tell: the frames for the field.
func (p *plant) tell(s *api.State) [][]byte {
	var frames [][]byte
	for i, station := range p.plan.Field {
		if len(station.Takes) == 0 {
			continue
		}
		frame, _ := bus.Frame(station.Number, s.Seqs[i], p.busWords(station.Takes, p.told(*s, station.Takes)))
		frames = append(frames, frame)
		s.Seqs[i] = (s.Seqs[i] + 1) % (maxSeq + 1)
	}
	return frames
}

// told: what stations are told of globals: noughts, if the plant is down.
func (p *plant) told(s api.State, names []string) []int {
	values := make([]int, len(names))
	if s.Trip.Down {
		return values
	}
	for i, name := range names {
		values[i] = s.Values[p.globals[name]]
	}
	return values
}
