package change

import "plantwright/api"

// identity is what makes a slot of one unit the same as one of another; where its words lie, and what it is for, may have changed.
type identity struct {
	path  string
	kind  api.Kind
	count int
}

func identityOf(s api.Slot) identity {
	return identity{path: s.Path, kind: s.Kind, count: s.Len}
}

// findSlots: where the words of each slot begin; of several that are the same, those of the first one.
func findSlots(slots []api.Slot) map[identity]int {
	found := make(map[identity]int, len(slots))
	for _, s := range slots {
		if _, ok := found[identityOf(s)]; !ok {
			found[identityOf(s)] = s.At
		}
	}
	return found
}

// words: how many are a slot's?
func words(s api.Slot) int {
	return max(s.Len, 1)
}

// mayBeCarried: can a unit's slots be trusted to lie in its frame? How it runs is not asked.
func mayBeCarried(p api.Proc) bool {
	if len(p.First) > api.MaxFrame || len(p.Slots) > api.MaxSlots {
		return false
	}
	for _, s := range p.Slots {
		if s.Len < 0 || !liesWithin(s, len(p.First)) {
			return false
		}
	}
	return true
}

// liesWithin: are a slot's words among the first so many? The sum of At and Len is not taken: it may be no number any more.
func liesWithin(s api.Slot, size int) bool {
	return s.At >= 0 && s.At <= size-words(s)
}
