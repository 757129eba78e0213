package code_test

import (
	"fmt"
	"strings"
	"testing"

	"plantwright/api"
	"plantwright/check"
	"plantwright/code"
)

func TestNoUnits(t *testing.T) {
	if c, f := code.Compile(nil, nil); f != (api.Fault{}) || len(c.Procs) != 0 {
		t.Error(c, f)
	}
	if c, f := code.Compile([]api.Unit{}, []api.Global{{Name: "a", Kind: api.Int, Dir: api.Memory}}); f != (api.Fault{}) || len(c.Procs) != 0 {
		t.Error(c, f)
	}
}

// Whatever Check tells, Compile tells.
func TestFaultsOfCheck(t *testing.T) {
	gs := []api.Global{{Name: "gf", Kind: api.Int, Dir: api.FromField}}
	for _, s := range []string{
		"PROGRAM p a := 1; END_PROGRAM", "PROGRAM p VAR a : INT; END_VAR END_PROGRAM PROGRAM q VAR a : BOOL; END_VAR a := 1; END_PROGRAM", "PROGRAM p EXIT; END_PROGRAM",
		"PROGRAM p VAR a : INT := 40000; END_VAR END_PROGRAM", "PROGRAM p END_PROGRAM PROGRAM p END_PROGRAM", "PROGRAM p VAR_EXTERNAL gf : INT; END_VAR gf := 1; END_PROGRAM",
		"FUNCTION f : INT VAR_INPUT x : INT; END_VAR END_FUNCTION PROGRAM p VAR a : INT; END_VAR a := f(1, 2); END_PROGRAM",
	} {
		us := parsed(t, s)
		_, want := check.Check(us, gs)
		if want.Code == api.OK {
			t.Fatal(s)
		}
		refused(t, us, gs, want)
	}
	refused(t, nil, append(gs, gs...), api.Fault{Code: api.ErrPlan, At: 1})
	refused(t, []api.Unit{{}}, gs, api.Fault{Code: api.ErrText})
	refused(t, make([]api.Unit, api.MaxUnits+1), gs, api.Fault{Code: api.ErrSize, Unit: api.MaxUnits})
	// ahead of what is too great in a unit ahead
	us := parsed(t, "PROGRAM p "+arrays(api.MaxFrame+1)+" END_PROGRAM PROGRAM q EXIT; END_PROGRAM")
	refused(t, us, nil, api.Fault{Code: api.ErrLoop, Unit: 1, At: us[1].Body[0].At})
}

// arrays: variables of so many words.
func arrays(words int) string {
	s := "VAR"
	for i := 0; words > 0; i++ {
		n := min(words, api.MaxLen)
		s += fmt.Sprintf(" v%d : ARRAY[1..%d] OF INT;", i, n)
		words -= n
	}
	return s + " END_VAR"
}

func TestFrameTooGreat(t *testing.T) {
	fits := func(units, text string) {
		t.Helper()
		c := compiled(t, units+text)
		if n := len(c.Procs[len(c.Procs)-1].First); n != api.MaxFrame {
			t.Errorf("%.80s: %d words", text, n)
		}
	}
	tooGreat := func(units, text string) {
		t.Helper()
		us := parsed(t, units+text)
		at := len(us) - 1
		refused(t, us, nil, api.Fault{Code: api.ErrSize, Unit: at, At: us[at].At})
	}
	m := api.MaxFrame
	fits("", " PROGRAM p "+arrays(m)+" END_PROGRAM")
	tooGreat("", " PROGRAM p "+arrays(m+1)+" END_PROGRAM")
	tooGreat("", " PROGRAM p "+arrays(200*api.MaxLen)+" END_PROGRAM")
	// a function's result counts
	fits("", "FUNCTION f : INT "+arrays(m-1)+" END_FUNCTION")
	tooGreat("", "  FUNCTION f : INT "+arrays(m)+" END_FUNCTION")
	// an instance counts with its frame
	fits("", "PROGRAM p "+arrays(m-8)+" VAR t : TON; END_VAR END_PROGRAM")
	tooGreat("", " PROGRAM p "+arrays(m-7)+" VAR t : TON; END_VAR END_PROGRAM")
	block := "FUNCTION_BLOCK b " + arrays(5000) + " END_FUNCTION_BLOCK "
	fits(block, "PROGRAM p VAR c, d, e, f : b; END_VAR END_PROGRAM")
	tooGreat(block, "PROGRAM p VAR c, d, e, f : b; g : INT; END_VAR END_PROGRAM")
	// so does an area, and one within an instance
	f := "FUNCTION f : INT VAR_INPUT x : INT; END_VAR " + arrays(5998) + " END_FUNCTION "
	fits(f, "PROGRAM p VAR a : INT; END_VAR "+arrays(m-6001)+" a := f(a); END_PROGRAM")
	tooGreat(f, "PROGRAM p VAR a : INT; END_VAR "+arrays(m-6000)+" a := f(a); END_PROGRAM")
	fb := f + "FUNCTION_BLOCK b VAR a : INT; END_VAR a := f(a); END_FUNCTION_BLOCK "
	fits(fb, "PROGRAM p VAR c, d : b; END_VAR "+arrays(m-12002)+" END_PROGRAM")
	tooGreat(fb, "PROGRAM p VAR c, d : b; END_VAR "+arrays(m-12001)+" END_PROGRAM")
	// blocks of blocks grow fast
	grow := "FUNCTION_BLOCK b0 " + arrays(100) + " END_FUNCTION_BLOCK "
	grow += "FUNCTION_BLOCK b1 VAR " + copies("b0") + "END_VAR END_FUNCTION_BLOCK "
	tooGreat(grow, "FUNCTION_BLOCK b2 VAR "+copies("b1")+"END_VAR END_FUNCTION_BLOCK ")
}

// copies: as many instances as there may be.
func copies(of string) string {
	var names []string
	for i := range api.MaxVars {
		names = append(names, fmt.Sprint("v", i))
	}
	return strings.Join(names, ", ") + " : " + of + "; "
}

// sets: so many statements of two instructions, a := 1.
func sets(n int) []api.Stmt {
	l := make([]api.Stmt, n)
	for i := range l {
		l[i] = api.Stmt{Verb: api.Set, Name: "a", E: []api.Expr{{Form: api.Lit, N: 1}}}
	}
	return l
}

func forLoop(name string, rounds int, body ...api.Stmt) api.Stmt {
	return api.Stmt{Verb: api.For, Name: name, From: 1, To: rounds, By: 1, Body: body}
}

// unitOf: a program named so of these statements, with the variables a, i, j.
func unitOf(name string, at int, lists ...[]api.Stmt) api.Unit {
	u := api.Unit{Kind: api.Program, Name: name, At: at}
	for _, v := range []string{"a", "i", "j"} {
		u.Vars = append(u.Vars, api.Var{Name: v, Role: api.Own, Kind: api.Int})
	}
	for _, l := range lists {
		u.Body = append(u.Body, l...)
	}
	return u
}

var end = []api.Stmt{{Verb: api.Return}}

func TestTextTooLong(t *testing.T) {
	c, f := code.Compile([]api.Unit{unitOf("p", 7, sets(api.MaxCode/2))}, nil)
	if f != (api.Fault{}) || len(c.Procs[0].Text) != api.MaxCode {
		t.Error(f)
	}
	passes(t, "longest", c, api.MaxCode)
	refused(t, []api.Unit{unitOf("p", 7, sets(api.MaxCode/2), end)}, nil, api.Fault{Code: api.ErrSize, At: 7})
	// as a text: a condition stands twice
	long := "PROGRAM p VAR b : BOOL; END_VAR WHILE b" + strings.Repeat("&b", 29000) + " MAX 2 DO END_WHILE; END_PROGRAM"
	refused(t, parsed(t, long), nil, api.Fault{Code: api.ErrSize})
}

// slowest: statements that take just MaxBound steps.
func slowest() []api.Stmt {
	l := []api.Stmt{
		forLoop("i", 10000, forLoop("j", 1000, sets(46)...)), // 3 + 10000 * (8 + 1000 * 97) = 970080003
		forLoop("i", 10000, sets(1490)...),                   // 3 + 10000 * 2985 = 29850003
	}
	return append(l, sets(34997)...) // 69994
}

func TestTooSlow(t *testing.T) {
	c, f := code.Compile([]api.Unit{unitOf("p", 7, slowest())}, nil)
	if f != (api.Fault{}) {
		t.Fatal(f)
	}
	passes(t, "slowest", c, api.MaxBound)
	refused(t, []api.Unit{unitOf("p", 7, slowest(), end)}, nil, api.Fault{Code: api.ErrSlow, At: 7})
	refused(t, []api.Unit{unitOf("p", 0), unitOf("q", 9, end, slowest())}, nil, api.Fault{Code: api.ErrSlow, Unit: 1, At: 9})
	// a function's bound counts wherever it is called
	f3 := `FUNCTION f : INT VAR_INPUT x : INT; END_VAR VAR i, j : INT; END_VAR FOR i := 1 TO 10000 DO FOR j := 1 TO 6000 DO END_FOR; END_FOR; END_FUNCTION
PROGRAM p VAR a : INT; END_VAR a := f(1)`
	compiled(t, f3+" + f(2) + f(3); END_PROGRAM")
	us := parsed(t, f3+" + f(2) + f(3) + f(4); END_PROGRAM")
	refused(t, us, nil, api.Fault{Code: api.ErrSlow, Unit: 1, At: us[1].At})
	us = parsed(t, "PROGRAM p VAR i, j, k : INT; END_VAR FOR i := 1 TO 10000 DO FOR j := 1 TO 10000 DO FOR k := 1 TO 10000 DO END_FOR; END_FOR; END_FOR; END_PROGRAM")
	refused(t, us, nil, api.Fault{Code: api.ErrSlow})
}

// Loops as deep as they may stand have counters enough, and are too slow; of one round each they are not.
func TestDeepLoops(t *testing.T) {
	text := func(rounds int) string {
		s := "PROGRAM p VAR"
		for i := range api.MaxLoops {
			s += fmt.Sprintf(" v%d : INT;", i)
		}
		s += " END_VAR"
		for i := range api.MaxLoops {
			s += fmt.Sprintf(" FOR v%d := 1 TO %d DO", i, rounds)
		}
		return s + strings.Repeat(" END_FOR;", api.MaxLoops) + " END_PROGRAM"
	}
	c := compiled(t, text(1))
	passes(t, "deep", c, 8*api.MaxLoops)
	refused(t, parsed(t, text(10000)), nil, api.Fault{Code: api.ErrSlow})
}

// Units are gone through in order, and of one unit ErrSize comes ahead of ErrSlow.
func TestOrderOfFaults(t *testing.T) {
	long, slow, fine := unitOf("l", 3, sets(api.MaxCode/2+1)), unitOf("s", 4, slowest(), end), unitOf("f", 5)
	great := unitOf("g", 6)
	for i := range 21 {
		great.Vars = append(great.Vars, api.Var{Name: fmt.Sprint("y", i), Role: api.Own, Kind: api.Int, Len: api.MaxLen})
	}
	refused(t, []api.Unit{fine, long, slow, great}, nil, api.Fault{Code: api.ErrSize, Unit: 1, At: 3})
	refused(t, []api.Unit{slow, great, long, fine}, nil, api.Fault{Code: api.ErrSlow, Unit: 0, At: 4})
	refused(t, []api.Unit{fine, great, long, slow}, nil, api.Fault{Code: api.ErrSize, Unit: 1, At: 6})
	both := great
	both.Body = slow.Body
	refused(t, []api.Unit{both}, nil, api.Fault{Code: api.ErrSize, At: 6})
	longAndSlow := unitOf("l", 8, slowest(), sets(40000))
	refused(t, []api.Unit{fine, longAndSlow}, nil, api.Fault{Code: api.ErrSize, Unit: 1, At: 8})
}

// A sum of very many operands is as deep as it is long.
func TestLongSums(t *testing.T) {
	c := compiled(t, "PROGRAM p VAR a : INT; END_VAR a:="+strings.Repeat("1+", 29000)+"a; END_PROGRAM")
	r := code.Run(c, 0, []int{3}, 0)
	ran(t, "sum", r, 29000*2+2, 0, 29003)
}

// What stands as deep as may be needs no more stack than there is.
func TestDeepExpressions(t *testing.T) {
	call := "FUNCTION f : INT VAR_INPUT a, b, c, d, e, g, h, i : INT; END_VAR f := a + i; END_FUNCTION PROGRAM p VAR x : INT; END_VAR x := "
	for _, step := range []string{"f(1,1,1,1,1,1,1,", "f(1,1,1,1,1,1,1,1+1*", "(1+1*", "sel(TRUE,1,1+", "limit(1,2,1-", "max(1,1+2*"} {
		n := api.MaxDeep - 2
		compiled(t, call+strings.Repeat(step, n)+"x"+strings.Repeat(")", n)+"; END_PROGRAM")
	}
	deep := strings.Repeat("(b OR b XOR b AND b = b <> ", api.MaxDeep-2)
	compiled(t, "PROGRAM p VAR b : BOOL; END_VAR b := "+deep+"b"+strings.Repeat(")", api.MaxDeep-2)+"; END_PROGRAM")
}

// Hidden names, which no text has, are names as others.
func TestHiddenNames(t *testing.T) {
	us := []api.Unit{
		{Kind: api.Function, Name: "%0", Result: api.Bool, Vars: []api.Var{{Name: "%1", Role: api.Input, Kind: api.Bool}}},
		{Kind: api.Program, Name: "%1", Vars: []api.Var{{Name: "%2", Role: api.Own, Kind: api.Bool}, {Name: "%3", Role: api.Keep, Of: "sr"}}, Body: []api.Stmt{
			{Verb: api.Set, Name: "%2", E: []api.Expr{{Form: api.Call, Name: "%0", Kids: []api.Expr{{Form: api.Part, Name: "%3", Part: "q1"}}}}},
		}},
	}
	c, f := code.Compile(us, nil)
	if f != (api.Fault{}) {
		t.Fatal(f)
	}
	lies(t, c.Procs[1], noughts(7), "%2:Bool@0*01 %3.s1:Bool@1*0!2 %3.r:Bool@2*0!2 %3.q1:Bool@3*0!3 %3.%on:Bool@4*0!1")
	same(t, "hidden", c.Procs[1].Text, "Load 3, Store 6, Run 0 5, Load 5, Store 0")
}
