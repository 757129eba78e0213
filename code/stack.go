package code

import (
	"plantwright/api"
	"plantwright/cell"
)

// unreached is the height of the stack where no way has led to.
const unreached = -1

// mayStack: is the stack, on all ways, high enough and not too high, and equally high wherever they meet? All ways lead forward, but for those of Rounds, whose ends have been seen by then: one look at each instruction will do.
func (o *overseer) mayStack() bool {
	text := o.proc.Text
	heights := make([]int, len(text)+1)
	for i := range heights {
		heights[i] = unreached
	}
	heights[0] = 0
	meet := func(h int, places ...int) bool {
		for _, at := range places {
			if heights[at] == unreached {
				heights[at] = h
			}
			if heights[at] != h {
				return false
			}
		}
		return true
	}
	for i, x := range text {
		if heights[i] == unreached {
			continue
		}
		takes, gives := effect(x)
		h := heights[i] - takes + gives
		if heights[i] < takes || h > api.MaxStack || !meet(h, ways(i, x)...) {
			return false
		}
	}
	return heights[len(text)] == 0
}

// ways: where it may go on behind an instruction.
func ways(i int, x api.Instr) []int {
	switch x.Do {
	case api.Jump:
		return []int{x.A}
	case api.Fall:
		return []int{i + 1, x.A}
	case api.Round:
		return []int{i + 1, x.B}
	}
	return []int{i + 1}
}

// effect: how many words an instruction takes off the stack, and how many it puts there.
func effect(x api.Instr) (int, int) {
	switch x.Do {
	case api.Push, api.Load:
		return 0, 1
	case api.Store, api.Drop, api.Fall:
		return 1, 0
	case api.LoadAt, api.Turn:
		return 1, 1
	case api.StoreAt:
		return 2, 0
	case api.Work:
		return operands(x), 1
	case api.Pick:
		return 3, 1
	case api.Dup:
		return 1, 2
	}
	return 0, 0
}

// operands: how many an operation has that its kind has.
func operands(x api.Instr) int {
	if cell.Second(api.Op(x.A), api.Kind(x.B)) == api.None {
		return 1
	}
	return 2
}
