package tasks_test

import (
	"math"
	"slices"
	"testing"

	"plantwright/api"
	"plantwright/code"
	"plantwright/source"
	"plantwright/tasks"
)

// compiled: the code of a text that is right.
func compiled(t *testing.T, s string) api.Code {
	t.Helper()
	us, f := source.Parse(s)
	if f != (api.Fault{}) {
		t.Fatal(f)
	}
	c, f := code.Compile(us, nil)
	if f != (api.Fault{}) {
		t.Fatal(f)
	}
	return c
}

// programs: code of programs with so many steps each.
func programs(steps ...int) api.Code {
	var c api.Code
	for _, n := range steps {
		c.Procs = append(c.Procs, api.Proc{Kind: api.Program, Text: lates(n)})
	}
	return c
}

// weighs: does Weigh tell this?
func weighs(t *testing.T, c api.Code, unit, step, want int, e api.Errno) {
	t.Helper()
	if n, got := tasks.Weigh(c, unit, step); n != want || got != e {
		t.Errorf("unit %d, step %d: %d, %v, not %d, %v", unit, step, n, got, want, e)
	}
}

func TestWeigh(t *testing.T) {
	c := compiled(t, "PROGRAM p VAR i, s : INT; END_VAR FOR i := 1 TO 3 DO s := s + i; END_FOR; END_PROGRAM")
	for _, x := range [][2]int{{1, 1}, {33, 1}, {34, 2}, {66, 2}, {67, 3}, {100, 3}, {101, 4}, {999, 30}, {1000, 30}} {
		weighs(t, c, 0, x[0], x[1], api.OK)
	}
	weighs(t, programs(0), 0, 1, 0, api.OK)
	weighs(t, programs(0), 0, 1000, 0, api.OK)
	weighs(t, programs(1), 0, 1, 1, api.OK)
	weighs(t, programs(1), 0, 1000, 1, api.OK)
	weighs(t, programs(1000), 0, 1, 1, api.OK)
	weighs(t, programs(1001), 0, 1, 2, api.OK)
	weighs(t, programs(2000), 0, 1, 2, api.OK)
	weighs(t, programs(999), 0, 999, 999, api.OK) // 998001
}

// Each unit has a bound of its own, functions and blocks as well.
func TestWeighUnits(t *testing.T) {
	c := programs(1, 20, 300)
	for unit, want := range []int{1, 20, 300} {
		weighs(t, c, unit, 1000, want, api.OK)
	}
	c = compiled(t, "FUNCTION f : INT VAR_INPUT x : INT; END_VAR f := x + 1; END_FUNCTION FUNCTION_BLOCK b VAR a : INT; END_VAR a := f(a); END_FUNCTION_BLOCK PROGRAM p VAR k : b; END_VAR k(); k(); END_PROGRAM")
	bounds, _ := code.Verify(c)
	if !slices.Equal(bounds, []int{5, 10, 22}) {
		t.Fatal(bounds)
	}
	for unit, want := range bounds {
		weighs(t, c, unit, 1000, want, api.OK)
		weighs(t, c, unit, 500, (want+1)/2, api.OK)
	}
	weighs(t, programs(slices.Repeat([]int{7}, api.MaxUnits)...), api.MaxUnits-1, 1000, 7, api.OK)
}

// lates: so many instructions of a step each.
func lates(n int) []api.Instr {
	return slices.Repeat([]api.Instr{{Do: api.Late}}, n)
}

// rounds: a program of a loop in a loop, of so many steps in all: 1 + outer * (2 + inner * (within + 1)) + behind.
func rounds(outer, inner, within, behind int) api.Code {
	text := []api.Instr{{Do: api.Enter, A: 0, B: outer}, {Do: api.Enter, A: 1, B: inner}}
	text = append(text, lates(within)...)
	text = append(text, api.Instr{Do: api.Round, A: 1, B: 2}, api.Instr{Do: api.Round, A: 0, B: 1})
	return api.Code{Procs: []api.Proc{{Kind: api.Program, Text: append(text, lates(behind)...)}}}
}

// The greatest bound there is; one step more is too slow.
func TestGreatestBound(t *testing.T) {
	c := rounds(9999, 10000, 9, 80001)
	if bounds, f := code.Verify(c); f != (api.Fault{}) || !slices.Equal(bounds, []int{api.MaxBound}) {
		t.Fatal(bounds, f)
	}
	weighs(t, c, 0, 1000, 1000000000, api.OK)
	weighs(t, c, 0, 1, 1000000, api.OK)
	weighs(t, c, 0, 999, 999000000, api.OK)
	c = rounds(9999, 10000, 9, 80000)
	weighs(t, c, 0, 1000, 999999999, api.OK)
	weighs(t, c, 0, 1, 1000000, api.OK)
	weighs(t, c, 0, 999, 999000000, api.OK) // 998999999.001
	slow := rounds(9999, 10000, 9, 80002)
	if _, f := code.Verify(slow); f.Code != api.ErrSlow {
		t.Fatal(f)
	}
	weighs(t, slow, 0, 1, 0, api.ErrCode)
}

func TestWeighFaults(t *testing.T) {
	c := programs(3, 4)
	for _, step := range []int{0, -1, -1000, 1001, 1 << 32, math.MinInt, math.MaxInt} {
		weighs(t, c, 0, step, 0, api.ErrSize)
	}
	for _, unit := range []int{-1, 2, 3, 1 << 32, math.MinInt, math.MaxInt} {
		weighs(t, c, unit, 5, 0, api.ErrName)
	}
	weighs(t, api.Code{}, 0, 5, 0, api.ErrName)
	weighs(t, api.Code{}, -1, 5, 0, api.ErrName)
	for _, wrong := range wrongCodes() {
		weighs(t, wrong, 0, 5, 0, api.ErrCode)
	}
}

// wrongCodes: of which Verify tells ErrCode, of a unit or of all, or ErrSlow.
func wrongCodes() []api.Code {
	behind := programs(3, 4)
	behind.Procs[1].Kind = 0
	return []api.Code{{Procs: []api.Proc{{}}}, rounds(10000, 10000, 9, 0), behind, programs(make([]int, api.MaxUnits+1)...)}
}

// A step that is none is told ahead of code that may not be, and that ahead of a unit that there is not.
func TestWeighFirstFault(t *testing.T) {
	for _, c := range wrongCodes() {
		if _, f := code.Verify(c); f.Code == api.OK {
			t.Error("there is nothing wrong with it")
		}
		weighs(t, c, 0, 0, 0, api.ErrSize)
		weighs(t, c, -1, 1001, 0, api.ErrSize)
		weighs(t, c, -1, 5, 0, api.ErrCode)
		weighs(t, c, 99, 5, 0, api.ErrCode)
	}
	weighs(t, programs(1), 1, 0, 0, api.ErrSize)
	weighs(t, api.Code{}, 0, 0, 0, api.ErrSize)
}
