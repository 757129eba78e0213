package check_test

import (
	"fmt"
	"strings"
	"testing"

	"plantwright/api"
	"plantwright/check"
)

func TestNothing(t *testing.T) {
	for _, us := range [][]api.Unit{nil, {}} {
		for _, gs := range [][]api.Global{nil, {}} {
			if got, f := check.Check(us, gs); len(got) != 0 || f != (api.Fault{}) {
				t.Error(got, f)
			}
		}
	}
}

// global: a good one, changed.
func global(change func(g *api.Global)) api.Global {
	g := api.Global{Name: "x", Kind: api.Word, Dir: api.Memory}
	change(&g)
	return g
}

func TestGlobals(t *testing.T) {
	var bad []api.Global
	for _, name := range []string{"", "%0", "%1", "%01", "%", "1a", "A", "x y", "a-b", "max", "var", "int", "prev", "é", "a\x00", strings.Repeat("n", api.MaxName+1)} {
		bad = append(bad, global(func(g *api.Global) { g.Name = name }))
	}
	for _, k := range []api.Kind{api.None, api.Time + 1, -1} {
		bad = append(bad, global(func(g *api.Global) { g.Kind = k }))
	}
	for _, d := range []api.Dir{0, api.Setting + 1, -1} {
		bad = append(bad, global(func(g *api.Global) { g.Dir = d }))
	}
	bad = append(bad, global(func(g *api.Global) { g.Name = "gt" }))
	wrongUnit := []api.Unit{{}}
	for _, g := range bad {
		refused(t, nil, append(globals(), g, global(func(*api.Global) {})), api.Fault{Code: api.ErrPlan, At: 5})
		refused(t, wrongUnit, []api.Global{global(func(g *api.Global) { g.Name = "gt" }), g, {}}, api.Fault{Code: api.ErrPlan, At: 1})
	}
}

func TestGoodGlobals(t *testing.T) {
	gs := globals()
	for _, name := range []string{"_", "a1", "ton", "abs", "min", "int_to_dint", strings.Repeat("n", api.MaxName)} {
		gs = append(gs, global(func(g *api.Global) { g.Name = name }))
	}
	for k := api.Bool; k <= api.Time; k++ {
		for d := api.FromField; d <= api.Setting; d++ {
			gs = append(gs, api.Global{Name: fmt.Sprintf("x%d%d", k, d), Kind: k, Dir: d})
		}
	}
	if _, f := check.Check(nil, gs); f != (api.Fault{}) {
		t.Error(f)
	}
}

func TestManyGlobals(t *testing.T) {
	var gs []api.Global
	for i := range api.MaxGlobals {
		gs = append(gs, global(func(g *api.Global) { g.Name = fmt.Sprint("x", i) }))
	}
	if _, f := check.Check(nil, gs); f != (api.Fault{}) {
		t.Error(f)
	}
	gs = append(gs, global(func(*api.Global) {}), api.Global{})
	refused(t, nil, gs, api.Fault{Code: api.ErrPlan, At: api.MaxGlobals})
	gs[7].Kind = api.None
	refused(t, nil, gs, api.Fault{Code: api.ErrPlan, At: 7})
}

// A program's text of so many programs.
func programs(n int) string {
	return many(n, " ", func(i int) string { return fmt.Sprintf("PROGRAM p%d END_PROGRAM", i) })
}

func TestManyUnits(t *testing.T) {
	us := parsed(t, programs(api.MaxUnits))
	if got, f := check.Check(us, nil); len(got) != api.MaxUnits || f != (api.Fault{}) {
		t.Error(len(got), f)
	}
	us = append(us, api.Unit{Kind: api.Program, Name: "more", At: 9})
	refused(t, us, nil, api.Fault{Code: api.ErrSize, Unit: api.MaxUnits})
	us[0] = api.Unit{}
	refused(t, us, nil, api.Fault{Code: api.ErrSize, Unit: api.MaxUnits})
	refused(t, us, []api.Global{{}}, api.Fault{Code: api.ErrPlan})
}

// Units that may not be are told ahead of all else that is wrong with them, but behind what is wrong with those ahead.
func TestUnitsThatMayNotBe(t *testing.T) {
	good := parsed(t, "PROGRAM p VAR a : INT; END_VAR a := 1; END_PROGRAM")[0]
	bad := []func(u *api.Unit){
		func(u *api.Unit) { u.Kind = 0 },
		func(u *api.Unit) { u.Kind = 4 },
		func(u *api.Unit) { u.Name = "P" },
		func(u *api.Unit) { u.Result = api.Int },
		func(u *api.Unit) { u.Kind = api.Function },
		func(u *api.Unit) { u.Vars[0].Role = 0 },
		func(u *api.Unit) { u.Vars[0].Of = "ton" },
		func(u *api.Unit) { u.Body[0].E = nil },
		func(u *api.Unit) { u.Body[0].Verb = 11 },
		func(u *api.Unit) { u.Body[0].E[0].Kind = api.Int },
		func(u *api.Unit) { u.Body[0].E[0].Form = 0 },
		func(u *api.Unit) { u.Body[0].Arms = []api.Arm{{}} },
	}
	for i, spoil := range bad {
		u := parsed(t, "PROGRAM p VAR a, a : INT; END_VAR a := 1; END_PROGRAM")[0]
		u.At = 77
		spoil(&u)
		refused(t, []api.Unit{u}, nil, api.Fault{Code: api.ErrText})
		refused(t, []api.Unit{good, u}, nil, api.Fault{Code: api.ErrText, Unit: 1})
		late := good
		late.Body = []api.Stmt{{Verb: api.Exit, At: 5}}
		refused(t, []api.Unit{late, u}, nil, api.Fault{Code: api.ErrLoop, At: 5})
		if t.Failed() {
			t.Fatal(i)
		}
	}
	// what has its kinds already could come from no text
	refused(t, checked(t, "PROGRAM p VAR a : INT; END_VAR a := 1; END_PROGRAM"), nil, api.Fault{Code: api.ErrText})
}

func TestUnitNames(t *testing.T) {
	refuse(t, 1,
		wrong{"PROGRAM p END_PROGRAM ^PROGRAM p VAR p : INT; END_VAR END_PROGRAM", api.ErrTwice},
		wrong{"FUNCTION p : INT END_FUNCTION ^PROGRAM p END_PROGRAM", api.ErrTwice},
		wrong{"FUNCTION_BLOCK p END_FUNCTION_BLOCK ^FUNCTION P : BOOL END_FUNCTION PROGRAM p END_PROGRAM", api.ErrTwice},
		wrong{"PROGRAM p END_PROGRAM ^FUNCTION_BLOCK p END_FUNCTION_BLOCK", api.ErrTwice},
	)
	for _, name := range strings.Fields("ton tof tp ctu ctd ctud r_trig f_trig sr rs ramp hyst abs min limit sel shl shr rol ror") {
		refuse(t, 0, wrong{" ^PROGRAM " + name + " END_PROGRAM", api.ErrTwice}, wrong{" ^FUNCTION " + name + " : INT END_FUNCTION", api.ErrTwice})
	}
	words := strings.Fields("bool int dint word time")
	for _, from := range words {
		for _, to := range words {
			name := from + "_to_" + to
			if from != to {
				refuse(t, 0, wrong{" ^FUNCTION_BLOCK " + name + " END_FUNCTION_BLOCK", api.ErrTwice})
			} else {
				checked(t, "FUNCTION "+name+" : INT END_FUNCTION")
			}
		}
	}
	for _, name := range []string{"max2", "gf", "p", "bool_to_", "_to_int", "none_to_int", "to_int"} {
		checked(t, "PROGRAM "+name+" END_PROGRAM")
	}
}

// What Check answers is what it was given, but for kinds.
func TestAnswerIsWhatWasGiven(t *testing.T) {
	text := program("IF b THEN a := -(5); ELSIF a < 3 THEN y[a] := max(3, k); ELSE t(in := b, pt := T#1s, q => b); END_IF;" +
		"CASE a OF 1, 3..4: EXIT; ELSE RETURN; END_CASE; REPEAT CONTINUE; UNTIL u.f MAX 3 END_REPEAT;")
	text = strings.Replace(text, "EXIT", "WHILE b MAX 2 DO EXIT; END_WHILE", 1)
	us := parsed(t, text)
	got := checked(t, text)
	for i := range got {
		noKinds(&got[i])
	}
	if a, b := fmt.Sprintf("%+v", got), fmt.Sprintf("%+v", us); a != b {
		t.Errorf("%s, not %s", a, b)
	}
}

// noKinds takes away what Check put there.
func noKinds(u *api.Unit) {
	for i := range u.Vars {
		noKindsOf(&u.Vars[i].Init)
	}
	noKindsIn(u.Body)
}

func noKindsIn(l []api.Stmt) {
	for i := range l {
		s := &l[i]
		for j := range s.E {
			noKindsOf(&s.E[j])
		}
		for j := range s.Args {
			noKindsOf(&s.Args[j].E)
		}
		for j := range s.Arms {
			noKindsOf(&s.Arms[j].E)
			noKindsIn(s.Arms[j].Body)
		}
		noKindsIn(s.Else)
		noKindsIn(s.Body)
	}
}

func noKindsOf(e *api.Expr) {
	if e.Form != api.Lit || e.Kind != api.Bool && e.Kind != api.Time {
		e.Kind = api.None
	}
	for i := range e.Kids {
		noKindsOf(&e.Kids[i])
	}
}
