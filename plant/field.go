package plant

import (
	"plantwright/api"
	"plantwright/cell"
)

func (p *plant) takeField() {
	if len(p.plan.Field) > api.MaxStations {
		giveUp(api.ErrSize, 0)
	}
	for i, s := range p.plan.Field {
		p.takeStation(i, s)
	}
}

func (p *plant) takeStation(place int, s api.Station) {
	_, twice := p.stations[s.Number]
	switch {
	case !isWithin(s.Number, 0, api.MaxStation) || !isWithin(s.Watch, 1, api.MaxWatch):
		giveUp(api.ErrRange, place)
	case twice:
		giveUp(api.ErrTwice, place)
	}
	p.stations[s.Number] = place
	p.takeNames(place, s.Tells, api.FromField, p.tellers)
	p.takeNames(place, s.Takes, api.ToField, p.takers)
	if p.wordCount(s.Tells) > api.MaxWords || p.wordCount(s.Takes) > api.MaxWords || len(s.Safe) != len(s.Tells) {
		giveUp(api.ErrSize, place)
	}
	for i, name := range s.Tells {
		if !cell.Fits(p.kindOf(name), s.Safe[i]) {
			giveUp(api.ErrRange, place)
		}
	}
}

// takeNames takes down of which globals a station is the one that tells them, or takes them: no other one may.
func (p *plant) takeNames(place int, names []string, dir api.Dir, station map[string]int) {
	for _, name := range names {
		global, known := p.globals[name]
		_, twice := station[name]
		switch {
		case !known:
			giveUp(api.ErrName, place)
		case p.plan.Globals[global].Dir != dir:
			giveUp(api.ErrWrite, place)
		case twice:
			giveUp(api.ErrTwice, place)
		}
		station[name] = place
	}
}

// wordCount: how many words globals are on the bus.
func (p *plant) wordCount(names []string) int {
	count := 0
	for _, name := range names {
		count += wordsOf(p.kindOf(name))
	}
	return count
}

// busWords: values of globals, as on the bus.
func (p *plant) busWords(names []string, values []int) []int {
	var words []int
	for i, name := range names {
		words = putWords(words, p.kindOf(name), values[i])
	}
	return words
}

// safeWords: what a station's link has, if the station is silent.
func (p *plant) safeWords(s api.Station) []int {
	return p.busWords(s.Tells, s.Safe)
}

// wordBits: of a word on the bus.
const wordBits = 16

// wordsOf: how many words a value of a kind is.
func wordsOf(kind api.Kind) int {
	if kind == api.Dint || kind == api.Time {
		return 2
	}
	return 1
}

// putWords puts down a value, its lower word first.
func putWords(words []int, kind api.Kind, value int) []int {
	for range wordsOf(kind) {
		words = append(words, cell.Wrap(api.Word, value))
		value >>= wordBits
	}
	return words
}

// valueOf: the value of a kind that words are.
func valueOf(kind api.Kind, words []int) int {
	value := 0
	for i, w := range words {
		value |= w << (i * wordBits)
	}
	return cell.Wrap(kind, value)
}
