package blocks_test

import (
	"slices"
	"testing"

	"plantwright/blocks"
)

// TestBits: all that blocks of Bools alone can be given: the state, the inputs, the state behind them, the output.
func TestBits(t *testing.T) {
	for name, l := range map[string][][2][]int{
		"r_trig": {
			{{0, 0}, {0, 0}}, {{0, 1}, {1, 1}},
			{{1, 0}, {0, 0}}, {{1, 1}, {1, 0}},
		},
		"f_trig": {
			{{0, 0}, {0, 0}}, {{0, 1}, {1, 0}},
			{{1, 0}, {0, 1}}, {{1, 1}, {1, 0}},
		},
		"sr": {
			{{0, 0, 0}, {0, 0}}, {{0, 0, 1}, {0, 0}}, {{0, 1, 0}, {1, 1}}, {{0, 1, 1}, {1, 1}},
			{{1, 0, 0}, {1, 1}}, {{1, 0, 1}, {0, 0}}, {{1, 1, 0}, {1, 1}}, {{1, 1, 1}, {1, 1}},
		},
		"rs": {
			{{0, 0, 0}, {0, 0}}, {{0, 0, 1}, {0, 0}}, {{0, 1, 0}, {1, 1}}, {{0, 1, 1}, {0, 0}},
			{{1, 0, 0}, {1, 1}}, {{1, 0, 1}, {0, 0}}, {{1, 1, 0}, {1, 1}}, {{1, 1, 1}, {0, 0}},
		},
	} {
		for _, x := range l {
			given, want := x[0], x[1]
			state, out := blocks.Step(name, given[:1], given[1:], 123)
			if !slices.Equal(state, want[:1]) || !slices.Equal(out, want[1:]) {
				t.Errorf("Step(%q, %v, %v) is %v, %v, not %v, %v", name, given[:1], given[1:], state, out, want[:1], want[1:])
			}
		}
	}
}

func TestEdgesOneBehindTheOther(t *testing.T) {
	var up, down []int
	gotUp, gotDown := "", ""
	for i, clk := range []int{0, 1, 1, 0, 0, 1, 0, 1, 1} {
		var x, y []int
		up, x = blocks.Step("r_trig", up, []int{clk}, i)
		down, y = blocks.Step("f_trig", down, []int{clk}, i)
		gotUp += string(rune('0' + x[0]))
		gotDown += string(rune('0' + y[0]))
	}
	if gotUp != "010001010" || gotDown != "000100100" {
		t.Error(gotUp, gotDown)
	}
}

func TestRamp(t *testing.T) {
	for _, x := range []struct{ at, x, step, want int }{
		{0, 10, 3, 3}, {9, 10, 3, 10}, {10, 10, 3, 10}, {7, 10, 3, 10}, {6, 10, 3, 9},
		{0, -10, 3, -3}, {-9, -10, 3, -10}, {-7, -10, 3, -10}, {-6, -10, 3, -9},
		{0, 10, 0, 0}, {0, 10, -1, 0}, {0, -10, -1, 0}, {5, 10, -32768, 5}, {5, 5, -3, 5}, {5, 5, 0, 5},
		{-32768, 32767, 32767, -1}, {-1, 32767, 32767, 32766}, {32766, 32767, 32767, 32767},
		{32767, -32768, 32767, 0}, {0, -32768, 32767, -32767}, {-32767, -32768, 32767, -32768},
		{32767, 32767, 1, 32767}, {-32768, -32768, 1, -32768}, {-5, 5, 7, 2}, {5, -5, 7, -2},
	} {
		state, out := blocks.Step("ramp", []int{x.at}, []int{x.x, x.step}, 0)
		if !slices.Equal(state, []int{x.want}) || !slices.Equal(out, []int{x.want}) {
			t.Errorf("from %d towards %d by %d: %v, %v, not %d", x.at, x.x, x.step, state, out, x.want)
		}
	}
	play(t, "ramp",
		call{0, []int{7, 3}, []int{3}, []int{3}},
		call{0, []int{7, 3}, []int{6}, []int{6}},
		call{0, []int{7, 3}, []int{7}, []int{7}},
		call{0, []int{7, 3}, []int{7}, []int{7}},
		call{0, []int{-7, 10}, []int{-3}, []int{-3}},
	)
}

func TestHyst(t *testing.T) {
	for _, x := range []struct{ on, x, hi, lo, want int }{
		{0, 10, 10, 5, 1}, {0, 11, 10, 5, 1}, {1, 10, 10, 5, 1},
		{0, 9, 10, 5, 0}, {1, 9, 10, 5, 1}, {0, 6, 10, 5, 0}, {1, 6, 10, 5, 1},
		{0, 5, 10, 5, 0}, {1, 5, 10, 5, 0}, {1, 4, 10, 5, 0},
		{0, 7, 7, 7, 1}, {1, 6, 7, 7, 0}, {0, 8, 7, 7, 1}, // hi and lo alike: hi goes ahead
		{0, 7, 5, 10, 1}, {1, 7, 5, 10, 1}, {1, 4, 5, 10, 0}, {0, 11, 5, 10, 1}, // lo above hi: hi goes ahead
		{0, 32767, 32767, -32768, 1}, {1, -32768, 32767, -32768, 0}, {0, -32768, -32768, -32768, 1},
		{1, -3, -2, -5, 1}, {0, -3, -2, -5, 0}, {0, -2, -2, -5, 1}, {1, -5, -2, -5, 0},
	} {
		state, out := blocks.Step("hyst", []int{x.on}, []int{x.x, x.hi, x.lo}, 0)
		if !slices.Equal(state, []int{x.want}) || !slices.Equal(out, []int{x.want}) {
			t.Errorf("%d within %d and %d, having been %d: %v, %v, not %d", x.x, x.lo, x.hi, x.on, state, out, x.want)
		}
	}
	play(t, "hyst",
		call{0, []int{50, 60, 40}, []int{0}, []int{0}},
		call{0, []int{60, 60, 40}, []int{1}, []int{1}},
		call{0, []int{50, 60, 40}, []int{1}, []int{1}},
		call{0, []int{40, 60, 40}, []int{0}, []int{0}},
		call{0, []int{50, 60, 40}, []int{0}, []int{0}},
	)
}
