package code_test

import (
	"fmt"
	"reflect"
	"strings"
	"testing"

	"plantwright/api"
)

// toldSlots: each slot as path, kind, place, length, whether it is kept, role.
func toldSlots(l []api.Slot) string {
	var out []string
	for _, s := range l {
		keep := ""
		if s.Keep {
			keep = "!"
		}
		out = append(out, fmt.Sprintf("%s:%s@%d*%d%s%d", s.Path, kindNames[s.Kind], s.At, s.Len, keep, s.Role))
	}
	return strings.Join(out, " ")
}

// lies: does a unit lie so in its frame?
func lies(t *testing.T, p api.Proc, first []int, slots string) {
	t.Helper()
	if len(p.First) != len(first) || len(first) > 0 && !reflect.DeepEqual(p.First, first) {
		t.Errorf("%s begins with %v, not %v", p.Name, p.First, first)
	}
	if got := toldSlots(p.Slots); got != slots {
		t.Errorf("%s has\n%s\nnot\n%s", p.Name, got, slots)
	}
}

func noughts(n int) []int {
	return make([]int, n)
}

func with(lists ...[]int) []int {
	var l []int
	for _, x := range lists {
		l = append(l, x...)
	}
	return l
}

func TestFramesOfVariables(t *testing.T) {
	gs := []api.Global{{Name: "gf", Kind: api.Int, Dir: api.FromField}, {Name: "gt", Kind: api.Bool, Dir: api.ToField}}
	c := compiled(t, `PROGRAM p VAR a : INT := -3; b : BOOL := TRUE; END_VAR VAR_EXTERNAL gt : BOOL; END_VAR VAR RETAIN d : DINT := 70000; w : WORD; y : ARRAY[-2..0] OF WORD := 16#FFFF; END_VAR
VAR z : TIME := T#1s; one : ARRAY[7..7] OF BOOL; END_VAR END_PROGRAM PROGRAM q END_PROGRAM`, gs...)
	lies(t, c.Procs[0], []int{-3, 1, 0, 70000, 0, 65535, 65535, 65535, 1000, 0},
		"a:Int@0*01 b:Bool@1*01 gt:Bool@2*04 d:Dint@3*0!5 w:Word@4*0!5 y:Word@5*3!5 z:Time@8*01 one:Bool@9*11")
	lies(t, c.Procs[1], nil, "")
	if c.Procs[0].Kind != api.Program || c.Procs[0].Name != "p" || c.Procs[1].Name != "q" {
		t.Error(c)
	}
}

func TestFramesOfFunctions(t *testing.T) {
	c := compiled(t, `FUNCTION f : TIME VAR y : ARRAY[0..1] OF INT := 4; END_VAR VAR_INPUT x : INT := 6; END_VAR END_FUNCTION`)
	lies(t, c.Procs[0], []int{0, 4, 4, 6}, "f:Time@0*01 y:Int@1*21 x:Int@3*02")
	if c.Procs[0].Kind != api.Function || c.Procs[0].Name != "f" {
		t.Error(c)
	}
}

func TestFramesOfStandardInstances(t *testing.T) {
	c := compiled(t, `PROGRAM p VAR a : INT := 9; t : TON; END_VAR VAR RETAIN u : CTUD; END_VAR VAR e : R_TRIG; END_VAR END_PROGRAM`)
	lies(t, c.Procs[0], with([]int{9}, noughts(8+11+3)),
		"a:Int@0*01 t.in:Bool@1*02 t.pt:Time@2*02 t.q:Bool@3*03 t.et:Time@4*03 t.%run:Bool@5*01 t.%since:Time@6*01 t.%done:Bool@7*01 t.%at:Time@8*01 "+
			"u.cu:Bool@9*0!2 u.cd:Bool@10*0!2 u.r:Bool@11*0!2 u.ld:Bool@12*0!2 u.pv:Int@13*0!2 u.qu:Bool@14*0!3 u.qd:Bool@15*0!3 u.cv:Int@16*0!3 u.%up:Bool@17*0!1 u.%down:Bool@18*0!1 u.%count:Int@19*0!1 "+
			"e.clk:Bool@20*02 e.q:Bool@21*03 e.%prev:Bool@22*01")
}

// Each standard block has as many words as its table says.
func TestWordsOfStandardBlocks(t *testing.T) {
	for name, words := range map[string]int{"ton": 8, "tof": 8, "tp": 8, "ctu": 7, "ctd": 7, "ctud": 11, "r_trig": 3, "f_trig": 3, "sr": 4, "rs": 4, "ramp": 4, "hyst": 5} {
		c := compiled(t, "PROGRAM p VAR x : "+name+"; END_VAR END_PROGRAM")
		if n := len(c.Procs[0].First); n != words || len(c.Procs[0].Slots) != words {
			t.Errorf("%s: %d words, %d slots", name, n, len(c.Procs[0].Slots))
		}
	}
}

// Instances of blocks within blocks: kept is what is kept itself, or stands in what is kept.
func TestFramesOfInstances(t *testing.T) {
	c := compiled(t, `FUNCTION_BLOCK in1 VAR_INPUT x : INT := 5; END_VAR VAR RETAIN k : INT := 6; END_VAR VAR_OUTPUT y : BOOL := TRUE; END_VAR VAR e : SR; END_VAR END_FUNCTION_BLOCK
FUNCTION_BLOCK nil1 END_FUNCTION_BLOCK
FUNCTION_BLOCK mid VAR a : in1; n : nil1; END_VAR VAR RETAIN b : in1; s : ARRAY[1..2] OF INT := 1; END_VAR END_FUNCTION_BLOCK
PROGRAM p VAR m : mid; n : nil1; v : INT := 2; END_VAR VAR RETAIN q : in1; END_VAR END_PROGRAM`)
	in := []int{5, 6, 1, 0, 0, 0, 0}
	lies(t, c.Procs[0], in, "x:Int@0*02 k:Int@1*0!5 y:Bool@2*03 e.s1:Bool@3*02 e.r:Bool@4*02 e.q1:Bool@5*03 e.%on:Bool@6*01")
	lies(t, c.Procs[1], nil, "")
	lies(t, c.Procs[2], with(in, in, []int{1, 1}),
		"a.x:Int@0*02 a.k:Int@1*0!5 a.y:Bool@2*03 a.e.s1:Bool@3*02 a.e.r:Bool@4*02 a.e.q1:Bool@5*03 a.e.%on:Bool@6*01 "+
			"b.x:Int@7*0!2 b.k:Int@8*0!5 b.y:Bool@9*0!3 b.e.s1:Bool@10*0!2 b.e.r:Bool@11*0!2 b.e.q1:Bool@12*0!3 b.e.%on:Bool@13*0!1 s:Int@14*2!5")
	lies(t, c.Procs[3], with(in, in, []int{1, 1, 2}, in),
		"m.a.x:Int@0*02 m.a.k:Int@1*0!5 m.a.y:Bool@2*03 m.a.e.s1:Bool@3*02 m.a.e.r:Bool@4*02 m.a.e.q1:Bool@5*03 m.a.e.%on:Bool@6*01 "+
			"m.b.x:Int@7*0!2 m.b.k:Int@8*0!5 m.b.y:Bool@9*0!3 m.b.e.s1:Bool@10*0!2 m.b.e.r:Bool@11*0!2 m.b.e.q1:Bool@12*0!3 m.b.e.%on:Bool@13*0!1 m.s:Int@14*2!5 v:Int@16*01 "+
			"q.x:Int@17*0!2 q.k:Int@18*0!5 q.y:Bool@19*0!3 q.e.s1:Bool@20*0!2 q.e.r:Bool@21*0!2 q.e.q1:Bool@22*0!3 q.e.%on:Bool@23*0!1")
	if c.Procs[0].Kind != api.Block {
		t.Error(c.Procs[0].Kind)
	}
}

// fns: four functions, of 2, 3, 2 and 2 words; g and h have an area of f within.
const fns = `FUNCTION f : INT VAR_INPUT x : INT := 1; END_VAR END_FUNCTION
FUNCTION g : INT VAR_INPUT x : INT := 2; END_VAR VAR o : INT := 3; END_VAR g := f(x); END_FUNCTION
FUNCTION h : BOOL VAR_INPUT x : INT := 4; END_VAR IF FALSE THEN x1(); END_IF; END_FUNCTION
FUNCTION idle : INT VAR_INPUT x : INT := 5; END_VAR END_FUNCTION
`

// Functions that are called anywhere have an area each, in the list's order, without slots.
func TestFramesOfAreas(t *testing.T) {
	text := strings.Replace(fns, "x1();", "h := f(f(x)) > 0;", 1)
	f, g, h := []int{0, 1}, []int{0, 2, 3, 0, 1}, []int{0, 4, 0, 1}
	for list, areas := range map[string][]int{
		"":           nil,
		"a := f(1);": f, "a := g(1);": g, "b := h(1);": h, "a := idle(1);": {0, 5},
		"b := h(g(f(1)));": with(f, g, h), "b := h(1); a := f(1);": with(f, h),
		"a := f(1) + f(2); a := f(f(3));":                              f,
		"a := f; f := a + f;":                                          nil, // the variable
		"RETURN; a := f(1);":                                           f,
		"FOR a := 1 TO 0 DO d := f(1); END_FOR;":                       f,
		"IF b THEN ELSIF h(1) THEN ELSE a := f(1); END_IF;":            with(f, h),
		"IF h(1) THEN a := g(1); END_IF;":                              with(g, h),
		"CASE g(1) OF 1: a := f(2); ELSE b := h(1); END_CASE;":         with(f, g, h),
		"WHILE h(1) MAX 2 DO a := f(1); END_WHILE;":                    with(f, h),
		"REPEAT a := f(1); UNTIL h(1) MAX 2 END_REPEAT;":               with(f, h),
		"y[f(1)] := g(2);":                                             with(f, g),
		"a := y[g(1)];":                                                g,
		"c(pv := f(1));":                                               f,
		"c(cu := h(1), pv := -g(2));":                                  with(g, h),
		"a := abs(max(f(1), sel(b, limit(1, g(1), 2), 3)));":           with(f, g),
		"FOR a := 1 TO 2 DO IF b THEN b := NOT h(1); END_IF; END_FOR;": h,
	} {
		c := compiled(t, text+"PROGRAM p VAR a, d : INT; b : BOOL; f : INT := 7; y : ARRAY[0..1] OF INT; c : CTU; END_VAR "+list+" END_PROGRAM")
		p := c.Procs[4]
		if want := with([]int{0, 0, 0, 7}, noughts(9), areas); !reflect.DeepEqual(p.First, want) {
			t.Errorf("%s: %v, not %v", list, p.First, want)
		}
		if n := len(p.Slots); n != 12 || p.Slots[11].Path != "c.%count" {
			t.Errorf("%s: %s", list, toldSlots(p.Slots))
		}
	}
}

// An area lies within each instance of the block that calls.
func TestAreasWithinInstances(t *testing.T) {
	c := compiled(t, `FUNCTION f : INT VAR_INPUT x : INT := 1; END_VAR END_FUNCTION
FUNCTION_BLOCK k VAR v : INT := 8; END_VAR v := f(v); END_FUNCTION_BLOCK
PROGRAM p VAR a, b : k; c : INT; END_VAR b(); c := f(c); END_PROGRAM`)
	lies(t, c.Procs[2], []int{8, 0, 1, 8, 0, 1, 0, 0, 1}, "a.v:Int@0*01 b.v:Int@3*01 c:Int@6*01")
	same(t, "p", c.Procs[2].Text, "Run 1 3, Load 6, Store 8, Run 0 7, Load 7, Store 6")
}

// A variable may be called as a function is.
func TestVariableNamedAsFunction(t *testing.T) {
	c := compiled(t, `FUNCTION f : INT VAR_INPUT x : INT; END_VAR f := x + 1; END_FUNCTION
PROGRAM p VAR f : INT := 3; abs : SR; END_VAR f := f(f) + abs(f); abs(); END_PROGRAM`)
	same(t, "p", c.Procs[1].Text, "Load 0, Store 6, Run 0 5, Load 5, Load 0, Work Abs Int, Work Add Int, Store 0, Std 9 1")
}
