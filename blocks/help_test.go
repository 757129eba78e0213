package blocks_test

import (
	"fmt"
	"math"
	"slices"
	"strings"
	"testing"

	"plantwright/api"
	"plantwright/blocks"
)

// table is the chapter's, line by line.
const table = `ton | in Bool, pt Time | q Bool, et Time | run Bool, since Time, done Bool, at Time
tof | in Bool, pt Time | q Bool, et Time | run Bool, since Time, on Bool, at Time
tp | in Bool, pt Time | q Bool, et Time | run Bool, since Time, prev Bool, at Time
ctu | cu Bool, r Bool, pv Int | q Bool, cv Int | prev Bool, count Int
ctd | cd Bool, ld Bool, pv Int | q Bool, cv Int | prev Bool, count Int
ctud | cu Bool, cd Bool, r Bool, ld Bool, pv Int | qu Bool, qd Bool, cv Int | up Bool, down Bool, count Int
r_trig | clk Bool | q Bool | prev Bool
f_trig | clk Bool | q Bool | prev Bool
sr | s1 Bool, r Bool | q1 Bool | on Bool
rs | s Bool, r1 Bool | q1 Bool | on Bool
ramp | x Int, step Int | y Int | at Int
hyst | x Int, hi Int, lo Int | q Bool | on Bool`

// row is a line of the table, read.
type row struct {
	name             string
	ins, outs, state []api.Pin
}

func rows() []row {
	var l []row
	for _, line := range strings.Split(table, "\n") {
		c := strings.Split(line, " | ")
		l = append(l, row{c[0], pinsOf(c[1]), pinsOf(c[2]), pinsOf(c[3])})
	}
	return l
}

func pinsOf(s string) []api.Pin {
	kinds := map[string]api.Kind{"Bool": api.Bool, "Int": api.Int, "Time": api.Time}
	var l []api.Pin
	for _, part := range strings.Split(s, ", ") {
		name, kind, _ := strings.Cut(part, " ")
		l = append(l, api.Pin{Name: name, Kind: kinds[kind]})
	}
	return l
}

// noNames are names of no block.
var noNames = []string{"", " ", "none", "TON", "Ton", "ton ", " ton", "to", "tonn", "t", "ct", "cu", "R_TRIG", "r_tri", "rtrig", "r-trig", "Sr", "q", "hys", "hyst\x00", "\xff", "тон", strings.Repeat("ton", 1000)}

// wide are numbers of all sizes.
var wide = []int{0, 1, 2, 3, -1, -2, 99, 100, 101, 32766, 32767, 32768, -32767, -32768, -32769, 65535, 65536, 1 << 31, 1<<31 - 1, 1<<32 - 1, 1 << 32, 1<<32 + 1, -1 << 32, math.MaxInt, math.MinInt}

// call is one call of a block: what is given, and what is asked of it.
type call struct {
	now   int
	in    []int
	state []int
	out   []int
}

// play steps a block from noughts on, by calls one behind the other.
func play(t *testing.T, name string, calls ...call) {
	t.Helper()
	playFrom(t, name, nil, calls...)
}

func playFrom(t *testing.T, name string, state []int, calls ...call) {
	t.Helper()
	for i, c := range calls {
		ahead := state
		var out []int
		state, out = blocks.Step(name, ahead, c.in, c.now)
		if !slices.Equal(state, c.state) || !slices.Equal(out, c.out) {
			t.Errorf("call %d: Step(%q, %v, %v, %d) is %v, %v, not %v, %v", i, name, ahead, c.in, c.now, state, out, c.state, c.out)
			return
		}
	}
}

// die gives numbers that look drawn, the same each time.
type die uint64

func (d *die) n(most int) int {
	*d = *d*6364136223846793005 + 1442695040888963407
	return int(uint64(*d>>33) % uint64(most))
}

func (d *die) of(l []int) int {
	return l[d.n(len(l))]
}

// word draws one of the kind, its edges and what is small more often than others; near: a number that is often asked for.
func (d *die) word(k api.Kind, near int) int {
	switch k {
	case api.Bool:
		return d.n(2)
	case api.Int:
		return []int{d.n(7) - 3, d.n(65536) - 32768, d.of([]int{-32768, -32767, 32766, 32767}), d.n(60)}[d.n(4)]
	}
	near += d.n(9) - 4
	return int(uint32([]int{d.n(20), d.n(1<<31)*2 + d.n(2), d.of([]int{0, 1<<32 - 1, 1 << 31}), near}[d.n(4)]))
}

func (d *die) words(pins []api.Pin, near int) []int {
	var l []int
	for _, p := range pins {
		l = append(l, d.word(p.Kind, near))
	}
	return l
}

func shapeText(s api.Shape) string {
	return fmt.Sprint(s.Ins, s.Outs, s.State)
}
