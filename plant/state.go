package plant

import (
	"slices"

	"plantwright/api"
	"plantwright/bus"
	"plantwright/cell"
	"plantwright/safety"
)

// maxSeq: the greatest sequence number.
const maxSeq = 255

// atFirst: the state that a plant begins with. What was looked at when it was planned leaves no error here.
func (p *plant) atFirst() api.State {
	s := api.State{Values: make([]int, len(p.plan.Globals)), Seqs: make([]int, len(p.plan.Field))}
	for _, proc := range p.built.Code.Procs {
		s.Frames = append(s.Frames, slices.Clone(proc.First[:frameSize(proc)]))
	}
	for _, station := range p.plan.Field {
		link, _ := bus.Start(station.Number, station.Watch, p.safeWords(station))
		s.Links = append(s.Links, link)
	}
	p.takeTold(&s)
	s.Trip, _ = safety.Start(p.plan.Guard)
	return s
}

// frameSize: how many words a state has for a unit: those of functions and blocks lie within the programs' frames.
func frameSize(proc api.Proc) int {
	if proc.Kind != api.Program {
		return 0
	}
	return len(proc.First)
}

// isState: is it one of this plant's?
func (p *plant) isState(s api.State) bool {
	return isWithin(s.Now, 0, api.MaxNow) && isWithin(s.Faults, 0, api.MaxNumber) &&
		p.areFrames(s.Frames) && p.areValues(s.Values) && p.areLinks(s.Links) && p.areSeqs(s.Seqs) && p.isTrip(s.Trip)
}

func (p *plant) areFrames(frames [][]int) bool {
	return slices.EqualFunc(frames, p.built.Code.Procs, func(frame []int, proc api.Proc) bool {
		return len(frame) == frameSize(proc)
	})
}

func (p *plant) areValues(values []int) bool {
	return slices.EqualFunc(values, p.plan.Globals, func(value int, g api.Global) bool {
		return cell.Fits(g.Kind, value)
	})
}

func (p *plant) areLinks(links []api.Link) bool {
	return slices.EqualFunc(links, p.plan.Field, func(l api.Link, s api.Station) bool {
		return l.Station == s.Number && l.Watch == s.Watch && slices.Equal(l.Safe, p.safeWords(s)) && mayBe(l)
	})
}

func (p *plant) areSeqs(seqs []int) bool {
	noSeq := func(seq int) bool { return !isWithin(seq, 0, maxSeq) }
	return len(seqs) == len(p.plan.Field) && !slices.ContainsFunc(seqs, noSeq)
}

// mayBe: could a link be? The only error of a tick is that it could not.
func mayBe(l api.Link) bool {
	_, e := bus.Tick(l)
	return e == api.OK
}

// isTrip: is it one of the guard's? The only error of a step in which all is calm is that it is none.
func (p *plant) isTrip(t api.Trip) bool {
	_, e := safety.Step(p.plan.Guard, t, make([]int, p.plan.Guard.Sensors), false)
	return e == api.OK
}

// copied: the same state, of memory of its own.
func copied(s api.State) api.State {
	s.Frames = slices.Clone(s.Frames)
	for i, frame := range s.Frames {
		s.Frames[i] = slices.Clone(frame)
	}
	s.Links = slices.Clone(s.Links)
	for i, l := range s.Links {
		s.Links[i].Safe, s.Links[i].Words = slices.Clone(l.Safe), slices.Clone(l.Words)
	}
	s.Values, s.Seqs, s.Trip.Held = slices.Clone(s.Values), slices.Clone(s.Seqs), slices.Clone(s.Trip.Held)
	return s
}
