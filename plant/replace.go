package plant

import (
	"slices"

	"plantwright/api"
	"plantwright/change"
)

// goOnFrom: the state with which a plant goes on from one that it replaces. What is taken over of that one's state is not copied.
func (p *plant) goOnFrom(before *plant, was api.State) api.State {
	s := p.atFirst()
	s.Now, s.Faults = was.Now, was.Faults
	p.carryFrames(before, was, &s)
	p.carryValues(before, was, &s)
	p.carryLinks(before, was, &s)
	if isSameGuard(before.plan, p.plan) {
		s.Trip = was.Trip
	}
	return s
}

// carryFrames: programs of the same name go on with what their variables had.
func (p *plant) carryFrames(before *plant, was api.State, s *api.State) {
	for name, place := range p.programs {
		old, ok := before.programs[name]
		if !ok {
			continue
		}
		// Carry has no error left: both units were compiled, and the frame was looked at.
		carried, _ := change.Carry(before.built.Code.Procs[old], was.Frames[old], p.built.Code.Procs[place])
		s.Frames[place] = carried.Frame
	}
}

func (p *plant) carryValues(before *plant, was api.State, s *api.State) {
	for i, g := range p.plan.Globals {
		old, ok := before.globals[g.Name]
		if ok && before.plan.Globals[old] == g {
			s.Values[i] = was.Values[old]
		}
	}
}

func (p *plant) carryLinks(before *plant, was api.State, s *api.State) {
	for i, station := range p.plan.Field {
		old, ok := before.stations[station.Number]
		if ok && p.isHeardAlike(station, before, before.plan.Field[old]) {
			s.Links[i], s.Seqs[i] = was.Links[old], was.Seqs[old]
		}
	}
}

// isHeardAlike: does a link to a station fit, as it stands, that of another plan with the same number? Globals may have changed their kinds, so what is safe may be other words, though it is the same.
func (p *plant) isHeardAlike(now api.Station, before *plant, old api.Station) bool {
	return now.Watch == old.Watch && slices.Equal(now.Safe, old.Safe) && slices.Equal(now.Tells, old.Tells) &&
		slices.Equal(p.safeWords(now), before.safeWords(old))
}

// isSameGuard: are both plans' guards the same, and what their sensors are?
func isSameGuard(a, b api.Plan) bool {
	return a.Guard.Sensors == b.Guard.Sensors && a.Guard.Delay == b.Guard.Delay &&
		slices.EqualFunc(a.Guard.Votes, b.Guard.Votes, isSameVote) && slices.Equal(a.Sensors, b.Sensors)
}

func isSameVote(a, b api.Vote) bool {
	return a.Need == b.Need && slices.Equal(a.Of, b.Of)
}
