package blocks

import "plantwright/api"

// The range of Int, which no count leaves.
const (
	lowest  = -32768
	highest = 32767
)

// counter is what the counters of one direction share.
type counter struct {
	prev  bool
	count int
}

func (c *counter) pins(edge, force string) api.Shape {
	return api.Shape{
		Ins:   []api.Pin{boolPin(edge), boolPin(force), intPin("pv")},
		Outs:  []api.Pin{boolPin("q"), intPin("cv")},
		State: []api.Pin{boolPin("prev"), intPin("count")},
	}
}

func (c *counter) load(state []int) {
	c.prev, c.count = truth(state[0]), state[1]
}

func (c *counter) save() []int {
	return []int{word(c.prev), c.count}
}

// rises: has the input come up? It is kept either way, since an edge that comes with a reset is used up, too.
func (c *counter) rises(input bool) bool {
	up := input && !c.prev
	c.prev = input
	return up
}

// ctu counts up.
type ctu struct{ counter }

func (b *ctu) shape() api.Shape {
	return b.pins("cu", "r")
}

func (b *ctu) step(in []int, now int) []int {
	rises, reset, pv := b.rises(truth(in[0])), truth(in[1]), in[2]
	switch {
	case reset:
		b.count = 0
	case rises:
		b.count = more(b.count)
	}
	return []int{word(b.count >= pv), b.count}
}

// ctd counts down.
type ctd struct{ counter }

func (b *ctd) shape() api.Shape {
	return b.pins("cd", "ld")
}

func (b *ctd) step(in []int, now int) []int {
	rises, load, pv := b.rises(truth(in[0])), truth(in[1]), in[2]
	switch {
	case load:
		b.count = pv
	case rises:
		b.count = less(b.count)
	}
	return []int{word(b.count <= 0), b.count}
}

// ctud counts up and down.
type ctud struct {
	up    bool
	down  bool
	count int
}

func (b *ctud) shape() api.Shape {
	return api.Shape{
		Ins:   []api.Pin{boolPin("cu"), boolPin("cd"), boolPin("r"), boolPin("ld"), intPin("pv")},
		Outs:  []api.Pin{boolPin("qu"), boolPin("qd"), intPin("cv")},
		State: []api.Pin{boolPin("up"), boolPin("down"), intPin("count")},
	}
}

func (b *ctud) load(state []int) {
	b.up, b.down, b.count = truth(state[0]), truth(state[1]), state[2]
}

func (b *ctud) save() []int {
	return []int{word(b.up), word(b.down), b.count}
}

func (b *ctud) step(in []int, now int) []int {
	cu, cd, reset, load, pv := truth(in[0]), truth(in[1]), truth(in[2]), truth(in[3]), in[4]
	up, down := cu && !b.up, cd && !b.down
	switch {
	case reset:
		b.count = 0
	case load:
		b.count = pv
	case up && !down:
		b.count = more(b.count)
	case down && !up:
		b.count = less(b.count)
	}
	b.up, b.down = cu, cd
	return []int{word(b.count >= pv), word(b.count <= 0), b.count}
}

func more(count int) int {
	return min(count+1, highest)
}

func less(count int) int {
	return max(count-1, lowest)
}
