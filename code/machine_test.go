package code_test

import (
	"math"
	"testing"

	"plantwright/api"
	"plantwright/code"
)

// job is a program on a frame, and what comes of it.
type job struct {
	text   string
	frame  []int
	want   []int
	steps  int
	faults int
}

func jobs(t *testing.T, l ...job) {
	t.Helper()
	for _, j := range l {
		c := codeOf(proc(len(j.frame), j.text))
		ran(t, j.text, code.Run(c, 0, j.frame, 0), j.steps, j.faults, j.want...)
	}
}

func TestWordsMove(t *testing.T) {
	jobs(t,
		job{"", nil, nil, 0, 0}, job{"", []int{4, 5}, []int{4, 5}, 0, 0},
		job{"Push 7, Store 1", []int{1, 2, 3}, []int{1, 7, 3}, 2, 0},
		job{"Load 0, Store 2", []int{1, 2, 3}, []int{1, 2, 1}, 2, 0},
		job{"Push 1, Push 2, Store 0, Store 1", []int{0, 0}, []int{2, 1}, 4, 0},
		job{"Push 5, Dup, Store 0, Store 1", []int{0, 0}, []int{5, 5}, 4, 0},
		job{"Push 5, Push 6, Drop, Store 0", []int{0}, []int{5}, 4, 0},
		// words of no kind are moved as they are
		job{"Push 9223372036854775807, Store 0, Load 1, Store 2", []int{0, math.MinInt, 0}, []int{math.MaxInt, math.MinInt, math.MinInt}, 4, 0},
		job{"Push 1, Push 2, Push 3, Pick, Store 0", []int{0}, []int{3}, 5, 0},
		job{"Push 0, Push 2, Push 3, Pick, Store 0", []int{0}, []int{2}, 5, 0},
		job{"Push -4, Push 2, Push 3, Pick, Store 0", []int{0}, []int{3}, 5, 0},
		job{"Late, Late", nil, nil, 2, 2},
		job{"Fill 1 2 9", []int{1, 2, 3, 4}, []int{1, 9, 9, 4}, 2, 0},
		job{"Fill 0 1 -9, Fill 3 1 8", []int{1, 2, 3, 4}, []int{-9, 2, 3, 8}, 2, 0},
		job{"Fill 0 4 0", []int{1, 2, 3, 4}, []int{0, 0, 0, 0}, 4, 0},
	)
}

func TestElements(t *testing.T) {
	load, store := "Load 0, LoadAt 1 3 -1, Store 4", "Load 0, Push 7, StoreAt 1 3 -1"
	for i, want := range map[int]int{-1: 11, 0: 12, 1: 13} {
		jobs(t, job{load, []int{i, 11, 12, 13, 9}, []int{i, 11, 12, 13, want}, 3, 0})
		frame := []int{i, 11, 12, 13, 9}
		frame[want-10] = 7
		jobs(t, job{store, []int{i, 11, 12, 13, 9}, frame, 3, 0})
	}
	for _, i := range []int{-2, 2, 3, 1000, math.MinInt, math.MaxInt, math.MinInt + 1, -1 << 32} {
		jobs(t,
			job{load, []int{i, 11, 12, 13, 9}, []int{i, 11, 12, 13, 0}, 3, 1},
			job{store, []int{i, 11, 12, 13, 9}, []int{i, 11, 12, 13, 9}, 3, 1})
	}
	jobs(t,
		job{"Load 0, LoadAt 1 1 4294967295, Store 0", []int{4294967295, 5}, []int{5, 5}, 3, 0}, job{"Load 0, LoadAt 1 1 4294967295, Store 0", []int{math.MaxInt, 5}, []int{0, 5}, 3, 1},
		job{"Load 0, LoadAt 1 1 -4294967295, Store 0", []int{-4294967295, 5}, []int{5, 5}, 3, 0}, job{"Load 0, LoadAt 1 1 -4294967295, Store 0", []int{math.MinInt, 5}, []int{0, 5}, 3, 1},
	)
}

func TestWorkAndTurn(t *testing.T) {
	jobs(t,
		job{"Push 7, Push 2, Work Sub Int, Store 0", []int{0}, []int{5}, 4, 0},
		job{"Push 32767, Push 1, Work Add Int, Store 0", []int{0}, []int{-32768}, 4, 0},
		job{"Push 7, Push 0, Work Div Int, Store 0", []int{3}, []int{0}, 4, 1},
		job{"Push -7, Push 0, Work Mod Dint, Store 0", []int{3}, []int{0}, 4, 1},
		job{"Push 7, Push 65536, Work Div Int, Store 0", []int{3}, []int{0}, 4, 1}, // nought as an Int
		job{"Push 7, Push -2, Work Div Int, Store 0", []int{3}, []int{-3}, 4, 0},
		job{"Push 1, Push 9, Work Neg Int, Store 0, Store 1", []int{0, 0}, []int{-9, 1}, 5, 0},
		job{"Push 1, Push 0, Work Not Bool, Store 0, Store 1", []int{0, 0}, []int{1, 1}, 5, 0},
		job{"Push 1, Push -9, Work Abs Dint, Store 0, Store 1", []int{0, 0}, []int{9, 1}, 5, 0},
		job{"Push 3, Push 1, Work Shl Word, Store 0", []int{0}, []int{6}, 4, 0},
		job{"Push 70000, Push 70001, Work Lt Word, Store 0", []int{0}, []int{1}, 4, 0},
		job{"Push -1, Turn Int Word, Store 0", []int{0}, []int{65535}, 3, 0},
		job{"Push 65536, Turn Dint Bool, Store 0", []int{0}, []int{1}, 3, 0},
		job{"Push 65536, Turn Word Bool, Store 0", []int{0}, []int{0}, 3, 0},
	)
}

func TestWays(t *testing.T) {
	jobs(t,
		job{"Jump 3, Push 1, Store 0, Push 2, Store 1", []int{0, 0}, []int{0, 2}, 3, 0},
		job{"Jump 1", nil, nil, 1, 0},
		job{"Load 0, Fall 4, Push 5, Store 1", []int{0, 9}, []int{0, 9}, 2, 0},
		job{"Load 0, Fall 4, Push 5, Store 1", []int{1, 9}, []int{1, 5}, 4, 0},
		job{"Load 0, Fall 4, Push 5, Store 1", []int{-1, 9}, []int{-1, 5}, 4, 0},
		job{"Load 0, Fall 2", []int{0}, []int{0}, 2, 0},
		job{"Enter 0 3, Round 0 1", nil, nil, 4, 0},
		job{"Enter 39 1, Round 39 1", nil, nil, 2, 0},
		job{"Enter 0 5, Load 0, Push 1, Work Add Int, Store 0, Round 0 1", []int{10}, []int{15}, 26, 0},
		// the inner counter begins anew each time
		job{"Enter 0 3, Enter 1 4, Load 0, Push 1, Work Add Int, Store 0, Round 1 2, Round 0 1", []int{0}, []int{12}, 1 + 3*(1+4*5+1), 0},
		job{"Enter 0 2, Late, Round 0 1, Enter 0 3, Late, Round 0 4", nil, nil, 12, 5},
		// a way out of a loop, and on to its end
		job{"Enter 0 4, Load 0, Fall 5, Fill 0 1 0, Round 0 1, Late", []int{1}, []int{0}, 1 + 4 + 2 + 1, 1},
		job{"Enter 0 2, Jump 3, Late, Round 0 1", nil, nil, 5, 0},
	)
}

// A unit runs on its piece of the frame, with a stack and counters of its own.
func TestUnitsWithinUnits(t *testing.T) {
	inner := api.Proc{Kind: api.Block, First: []int{0, 0}, Text: asm("Enter 0 2, Load 0, Load 1, Work Add Int, Store 1, Round 0 1")}
	outer := api.Proc{Kind: api.Function, First: []int{0, 0, 0}, Text: asm("Push 4, Run 0 1, Store 0, Late")}
	c := codeOf(inner, outer, proc(6, "Enter 0 3, Push 8, Run 1 2, Run 0 0, Drop, Round 0 1"))
	passes(t, "units", c, 11, 15, 1+3*(1+16+12+1+1))
	ran(t, "inner", code.Run(c, 0, []int{3, 5}, 0), 11, 0, 3, 11)
	ran(t, "outer", code.Run(c, 1, []int{3, 5, 1}, 0), 15, 1, 4, 5, 11)
	ran(t, "program", code.Run(c, 2, []int{1, 2, 3, 4, 5, 6}, 0), 94, 3, 1, 8, 4, 4, 29, 6)
}

// A standard block has its inputs, outputs and state at its words, and the run's time.
func TestStandardBlocks(t *testing.T) {
	c := codeOf(proc(10, "Std 1 1"))
	frame := []int{77, 1, 100, 0, 0, 0, 0, 0, 0, 88}
	for _, step := range []struct{ now, q, et, done int }{{4294967290, 0, 0, 0}, {4294967295, 0, 5, 0}, {94, 1, 100, 1}, {95, 1, 100, 1}} {
		r := code.Run(c, 0, frame, step.now)
		ran(t, "ton", r, 1, 0, 77, 1, 100, step.q, step.et, 1, 4294967290, step.done, step.et, 88)
		frame = r.Frame
	}
	// its inputs stay as they are, even such as do not fit; so does a time beyond Time
	ran(t, "ton", code.Run(c, 0, []int{77, 3, 100 + 1<<32, 0, 0, 0, 0, 0, 0, 88}, 1<<32+7), 1, 0, 77, 3, 100+1<<32, 0, 0, 1, 7, 0, 0, 88)
	for number, want := range [][]int{
		{1, 5, 0, 0, 1, 50, 0, 0}, {1, 5, 1, 0, 0, 0, 1, 0}, {1, 5, 1, 0, 1, 50, 1, 0}, {1, 0, 5, 0, 1, 1, 1}, {1, 0, 5, 1, -1, 1, -1}, {1, 0, 0, 0, 5, 0, 0, 1, 1, 0, 1},
		{1, 1, 1}, {1, 0, 1}, {1, 0, 1, 1}, {1, 0, 1, 1}, {9, 5, 5, 5}, {9, 5, 1, 1, 1},
	} {
		frame := make([]int, len(want))
		copy(frame, want)
		ins := []int{2, 2, 2, 3, 3, 5, 1, 1, 2, 2, 2, 3}[number]
		clear(frame[ins:])
		c := codeOf(proc(len(want), "Std "+itoa(number+1)+" 0"))
		ran(t, "block "+itoa(number+1), code.Run(c, 0, frame, 50), 1, 0, want...)
	}
}
