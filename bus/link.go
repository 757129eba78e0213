package bus

import (
	"slices"

	"plantwright/api"
)

// farthest: so far ahead a sequence number may be. These go round, so one that seems farther ahead is one that came late.
const farthest = 127

// lookAtStart: what is wrong with what a link begins with.
func lookAtStart(station, watch int, safe []int) api.Errno {
	if !isWithin(station, 0, api.MaxStation) || !isWithin(watch, 1, api.MaxWatch) {
		return api.ErrRange
	}
	return lookAt(safe)
}

// mayBe: could a link have come of Start, Take and Tick?
func mayBe(l api.Link) bool {
	if lookAtStart(l.Station, l.Watch, l.Safe) != api.OK || len(l.Words) != len(l.Safe) || !areWithin(l.Words, 0, maxWord) {
		return false
	}
	if !isWithin(l.Seq, 0, maxSeq) || !isWithin(l.Age, 0, l.Watch-1) {
		return false
	}
	return l.Fresh || l.Age == 0 && slices.Equal(l.Words, l.Safe)
}

// lookAtNews: why a link does not take what a frame tells.
func lookAtNews(l api.Link, station, seq int, words []int) api.Errno {
	switch {
	case station != l.Station:
		return api.ErrName
	case len(words) != len(l.Words):
		return api.ErrSize
	case l.Fresh && !isWithin(byte(seq-l.Seq), 1, farthest):
		return api.ErrOld
	}
	return api.OK
}

// copied: the same link, of memory of its own: what is told shares none with what was handed in.
func copied(l api.Link) api.Link {
	l.Safe, l.Words = slices.Clone(l.Safe), slices.Clone(l.Words)
	return l
}
