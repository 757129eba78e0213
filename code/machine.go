package code

import (
	"plantwright/api"
	"plantwright/blocks"
	"plantwright/cell"
)

// machine runs units that were looked over: no index and no height of the stack is asked again.
type machine struct {
	procs  []api.Proc
	now    int
	stack  []int
	steps  int
	faults int
}

func (m *machine) run(p *api.Proc, frame []int) {
	var counters [api.MaxLoops]int
	for at := 0; at < len(p.Text); {
		x := &p.Text[at]
		at++
		m.steps++
		switch x.Do {
		case api.Jump:
			at = x.A
		case api.Fall:
			if m.pop() == 0 {
				at = x.A
			}
		case api.Enter:
			counters[x.A] = x.B
		case api.Round:
			counters[x.A]--
			if counters[x.A] > 0 {
				at = x.B
			}
		default:
			m.do(x, frame)
		}
	}
}

// do: what an instruction does that goes on with the next one.
func (m *machine) do(x *api.Instr, frame []int) {
	switch x.Do {
	case api.Push:
		m.push(x.A)
	case api.Load:
		m.push(frame[x.A])
	case api.Store:
		frame[x.A] = m.pop()
	case api.Work:
		m.work(x)
	case api.LoadAt:
		m.loadAt(x, frame)
	case api.StoreAt:
		m.storeAt(x, frame)
	case api.Turn:
		m.push(cell.Convert(api.Kind(x.A), api.Kind(x.B), m.pop()))
	case api.Pick:
		m.pick()
	case api.Dup:
		m.push(m.stack[len(m.stack)-1])
	case api.Drop:
		m.pop()
	case api.Late:
		m.faults++
	case api.Fill:
		m.fill(frame[x.A:x.A+x.B], x.C)
	case api.Run:
		p := &m.procs[x.A]
		m.run(p, frame[x.B:x.B+len(p.First)])
	case api.Std:
		m.standard(x.A, frame[x.B:])
	}
}

func (m *machine) push(n int) {
	m.stack = append(m.stack, n)
}

func (m *machine) pop() int {
	last := len(m.stack) - 1
	n := m.stack[last]
	m.stack = m.stack[:last]
	return n
}

func (m *machine) work(x *api.Instr) {
	b := 0
	if operands(*x) == 2 {
		b = m.pop()
	}
	n, nought := cell.Do(api.Op(x.A), api.Kind(x.B), m.pop(), b)
	if nought {
		m.faults++
	}
	m.push(n)
}

func (m *machine) loadAt(x *api.Instr, frame []int) {
	i := m.pop()
	if !isWithin(i, x.C, x.C+x.B-1) {
		m.faults++
		m.push(0)
		return
	}
	m.push(frame[x.A+i-x.C])
}

func (m *machine) storeAt(x *api.Instr, frame []int) {
	n := m.pop()
	i := m.pop()
	if !isWithin(i, x.C, x.C+x.B-1) {
		m.faults++
		return
	}
	frame[x.A+i-x.C] = n
}

func (m *machine) pick() {
	b, a, g := m.pop(), m.pop(), m.pop()
	if g != 0 {
		a = b
	}
	m.push(a)
}

func (m *machine) fill(words []int, n int) {
	for i := range words {
		words[i] = n
	}
	// One step was counted already.
	m.steps += len(words) - 1
}

// standard: a step of a standard block on its words, which these begin with.
func (m *machine) standard(number int, words []int) {
	k := kitOf(number)
	state, outs := blocks.Step(k.name, words[k.outs:k.words], words[:k.ins], m.now)
	copy(words[k.ins:], outs)
	copy(words[k.outs:], state)
}
