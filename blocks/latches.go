package blocks

import "plantwright/api"

// edge is what those share that look for a change of clk.
type edge struct {
	prev bool
}

func (e *edge) shape() api.Shape {
	return api.Shape{
		Ins:   []api.Pin{boolPin("clk")},
		Outs:  []api.Pin{boolPin("q")},
		State: []api.Pin{boolPin("prev")},
	}
}

func (e *edge) load(state []int) {
	e.prev = truth(state[0])
}

func (e *edge) save() []int {
	return []int{word(e.prev)}
}

// rTrig tells when clk comes up.
type rTrig struct{ edge }

func (b *rTrig) step(in []int, now int) []int {
	clk := truth(in[0])
	q := clk && !b.prev
	b.prev = clk
	return []int{word(q)}
}

// fTrig tells when clk goes down.
type fTrig struct{ edge }

func (b *fTrig) step(in []int, now int) []int {
	clk := truth(in[0])
	q := b.prev && !clk
	b.prev = clk
	return []int{word(q)}
}

// latch is what those share that are on till they are switched off.
type latch struct {
	on bool
}

func (l *latch) pins(out string, ins ...api.Pin) api.Shape {
	return api.Shape{
		Ins:   ins,
		Outs:  []api.Pin{boolPin(out)},
		State: []api.Pin{boolPin("on")},
	}
}

func (l *latch) load(state []int) {
	l.on = truth(state[0])
}

func (l *latch) save() []int {
	return []int{word(l.on)}
}

// sr is a latch whose set is the stronger one.
type sr struct{ latch }

func (b *sr) shape() api.Shape {
	return b.pins("q1", boolPin("s1"), boolPin("r"))
}

func (b *sr) step(in []int, now int) []int {
	set, reset := truth(in[0]), truth(in[1])
	b.on = set || b.on && !reset
	return []int{word(b.on)}
}

// rs is a latch whose reset is the stronger one.
type rs struct{ latch }

func (b *rs) shape() api.Shape {
	return b.pins("q1", boolPin("s"), boolPin("r1"))
}

func (b *rs) step(in []int, now int) []int {
	set, reset := truth(in[0]), truth(in[1])
	b.on = (set || b.on) && !reset
	return []int{word(b.on)}
}

// hyst is on from hi up, off from lo down, and in between stays as it was.
type hyst struct{ latch }

func (b *hyst) shape() api.Shape {
	return b.pins("q", intPin("x"), intPin("hi"), intPin("lo"))
}

func (b *hyst) step(in []int, now int) []int {
	x, hi, lo := in[0], in[1], in[2]
	switch {
	case x >= hi:
		b.on = true
	case x <= lo:
		b.on = false
	}
	return []int{word(b.on)}
}

// ramp goes towards x, a step at a time.
type ramp struct {
	at int
}

func (b *ramp) shape() api.Shape {
	return api.Shape{
		Ins:   []api.Pin{intPin("x"), intPin("step")},
		Outs:  []api.Pin{intPin("y")},
		State: []api.Pin{intPin("at")},
	}
}

func (b *ramp) load(state []int) {
	b.at = state[0]
}

func (b *ramp) save() []int {
	return []int{b.at}
}

func (b *ramp) step(in []int, now int) []int {
	x, most := in[0], max(in[1], 0)
	b.at += min(max(x-b.at, -most), most)
	return []int{b.at}
}
