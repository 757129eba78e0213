package code_test

import (
	"math"
	"testing"

	"plantwright/api"
	"plantwright/code"
)

// fails: is this told, and nothing else?
func fails(t *testing.T, what string, got api.Ran, want api.Errno) {
	t.Helper()
	if got.Code != want || len(got.Frame) != 0 || got.Steps != 0 || got.Faults != 0 {
		t.Errorf("%s: %v, not %v", what, got, want)
	}
}

func TestErrorsOfRun(t *testing.T) {
	good := codeOf(proc(2, "Late"), proc(0, ""))
	ran(t, "first", code.Run(good, 0, []int{5, 6}, 0), 1, 1, 5, 6)
	ran(t, "second", code.Run(good, 1, nil, 0), 0, 0)
	ran(t, "second", code.Run(good, 1, []int{}, -9), 0, 0)
	for _, unit := range []int{-1, 2, 3, math.MaxInt, math.MinInt} {
		fails(t, "unit", code.Run(good, unit, []int{5, 6}, 0), api.ErrName)
		fails(t, "unit and frame", code.Run(good, unit, []int{5}, 0), api.ErrName)
	}
	for _, frame := range [][]int{nil, {5}, {5, 6, 7}} {
		fails(t, "frame", code.Run(good, 0, frame, 0), api.ErrSize)
	}
	fails(t, "frame", code.Run(good, 1, []int{1}, 0), api.ErrSize)
	fails(t, "no units", code.Run(codeOf(), 0, nil, 0), api.ErrName)
	// code that may not be is told first, and wherever in it that lies
	for _, bad := range []api.Code{codeOf(proc(2, "Late"), proc(0, "Drop")), codeOf(proc(2, "Drop"), proc(0, "")), codeOf(proc(2, "Late"), proc(0, deep(3)))} {
		fails(t, "code", code.Run(bad, 0, []int{5, 6}, 0), api.ErrCode)
		fails(t, "code and unit", code.Run(bad, 7, []int{5, 6}, 0), api.ErrCode)
		fails(t, "code and frame", code.Run(bad, 0, []int{5}, 0), api.ErrCode)
	}
}

// Units of all kinds may be run by themselves.
func TestRunOfFunctionsAndBlocks(t *testing.T) {
	c := compiled(t, "FUNCTION f : INT VAR_INPUT x : INT; END_VAR VAR o : INT := 3; END_VAR o := o + x; f := o * 2; END_FUNCTION FUNCTION_BLOCK b VAR_INPUT x : INT; END_VAR VAR_OUTPUT y : INT; END_VAR y := y + x; END_FUNCTION_BLOCK")
	ran(t, "function", code.Run(c, 0, []int{99, 4, 99}, 0), 2+8, 0, 14, 4, 7)
	ran(t, "block", code.Run(c, 1, []int{4, 5}, 0), 4, 0, 4, 9)
}

// The chapter's examples.
func TestExamplesOfRuns(t *testing.T) {
	c := compiled(t, "PROGRAM p VAR i, s : INT; END_VAR FOR i := 1 TO 3 DO s := s + i; END_FOR; END_PROGRAM")
	ran(t, "sum", code.Run(c, 0, c.Procs[0].First, 0), 30, 0, 3, 6)
	c = compiled(t, "PROGRAM p VAR i : INT := 4; s : INT := 2; END_VAR s := 5 / (i - i); END_PROGRAM")
	ran(t, "nought", code.Run(c, 0, c.Procs[0].First, 0), 6, 1, 4, 0)
}

// A run of millions of steps.
func TestLongRun(t *testing.T) {
	c := compiled(t, "PROGRAM p VAR i, j : INT; n : DINT; END_VAR FOR i := 1 TO 1000 DO FOR j := 1 TO 1000 DO n := n + 1; END_FOR; END_FOR; END_PROGRAM")
	ran(t, "long", code.Run(c, 0, c.Procs[0].First, 0), 3+1000*(5+3+1000*9), 0, 1000, 1000, 1000000)
}
