package plant

import "plantwright/api"

// eachKept goes through the words that are kept, as they lie in a state's frames, each with its kind.
func (p *plant) eachKept(s api.State, do func(kind api.Kind, word *int)) {
	for i, proc := range p.built.Code.Procs {
		if proc.Kind != api.Program {
			continue
		}
		for _, slot := range proc.Slots {
			if slot.Keep {
				words := s.Frames[i][slot.At : slot.At+max(slot.Len, 1)]
				for k := range words {
					do(slot.Kind, &words[k])
				}
			}
		}
	}
}

// lookAtKept: why words cannot be those that were kept.
func (p *plant) lookAtKept(s api.State, words []int) api.Errno {
	count := 0
	p.eachKept(s, func(api.Kind, *int) { count++ })
	if len(words) != count {
		return api.ErrSize
	}
	for _, w := range words {
		if !isWithin(w, 0, api.MaxNumber) {
			return api.ErrRange
		}
	}
	return api.OK
}
