package check_test

import (
	"fmt"
	"strings"
	"testing"

	"plantwright/api"
)

// unitTexts: the text ahead of and behind the heads of a unit of each kind.
var unitTexts = map[api.UnitKind][2]string{
	api.Program:  {"PROGRAM uu ", " END_PROGRAM"},
	api.Function: {"FUNCTION uu : INT ", " END_FUNCTION"},
	api.Block:    {"FUNCTION_BLOCK uu ", " END_FUNCTION_BLOCK"},
}

var roleTexts = map[api.Role]string{api.Own: "VAR ", api.Keep: "VAR RETAIN ", api.Input: "VAR_INPUT ", api.Output: "VAR_OUTPUT ", api.Extern: "VAR_EXTERNAL "}

// roles is the chapter's: what each unit has.
var roles = map[api.UnitKind][]api.Role{
	api.Program:  {api.Own, api.Keep, api.Extern},
	api.Function: {api.Own, api.Input},
	api.Block:    {api.Own, api.Keep, api.Input, api.Output},
}

func has(k api.UnitKind, r api.Role) bool {
	return strings.Contains(fmt.Sprint(roles[k]), fmt.Sprint(int(r)))
}

func unitWith(k api.UnitKind, r api.Role, decl string) string {
	return ahead + unitTexts[k][0] + roleTexts[r] + decl + " END_VAR" + unitTexts[k][1]
}

func TestRoles(t *testing.T) {
	for k := range unitTexts {
		for r := range roleTexts {
			inner := r == api.Own || r == api.Keep
			if has(k, r) {
				checked(t, unitWith(k, r, "gf : INT;"))
			} else {
				refuse(t, unitsAhead, wrong{unitWith(k, r, "^gf : INT;"), api.ErrKind})
			}
			if has(k, r) && inner {
				checked(t, unitWith(k, r, "gf : ARRAY[0..3] OF INT;"))
			} else {
				refuse(t, unitsAhead, wrong{unitWith(k, r, "^gf : ARRAY[0..3] OF INT;"), api.ErrKind})
			}
			if has(k, r) && inner && k != api.Function {
				checked(t, unitWith(k, r, "gf : ton; gt : fb;"))
				refuse(t, unitsAhead, wrong{unitWith(k, r, "gt : ton; ^gf : none;"), api.ErrName})
			} else {
				refuse(t, unitsAhead, wrong{unitWith(k, r, "^gf : ton;"), api.ErrKind}, wrong{unitWith(k, r, "^gf : none;"), api.ErrKind})
			}
		}
	}
}

func TestVariablesTwice(t *testing.T) {
	for k := range unitTexts {
		for r := range roleTexts {
			refuse(t, unitsAhead,
				wrong{unitWith(k, r, "^uu : INT;"), api.ErrTwice},
				wrong{unitWith(k, api.Own, "a : INT; END_VAR "+roleTexts[r]+"^A : none := 1;"), api.ErrTwice},
			)
		}
		// names of other units, of functions, blocks and globals may be had
		checked(t, unitWith(k, api.Own, "twice, fb, before, abs, ton, gm, int_to_dint : INT;"))
	}
}

func TestInstances(t *testing.T) {
	for _, name := range strings.Fields("ton tof tp ctu ctd ctud r_trig f_trig sr rs ramp hyst fb") {
		checked(t, unitWith(api.Program, api.Own, "i : "+name+";"))
	}
	checked(t, unitWith(api.Block, api.Keep, "ton : ton; fb : fb;"))
	refuse(t, unitsAhead,
		wrong{unitWith(api.Program, api.Own, "^i : ton := 1;"), api.ErrKind},
		wrong{unitWith(api.Program, api.Own, "^i : none := 1;"), api.ErrKind},
		wrong{unitWith(api.Program, api.Own, "^i : before;"), api.ErrName},
		wrong{unitWith(api.Program, api.Own, "^i : twice;"), api.ErrName},
		wrong{unitWith(api.Program, api.Own, "^i : abs;"), api.ErrName},
		wrong{unitWith(api.Program, api.Own, "^i : uu;"), api.ErrName},
		wrong{unitWith(api.Block, api.Own, "^i : uu;"), api.ErrName},
		wrong{unitWith(api.Block, api.Own, "^i : behind;") + " FUNCTION_BLOCK behind END_FUNCTION_BLOCK", api.ErrName},
		wrong{unitWith(api.Program, api.Own, "^i : gm;"), api.ErrName},
	)
}

func TestExterns(t *testing.T) {
	for _, g := range globals() {
		for k := api.Bool; k <= api.Time; k++ {
			decl := fmt.Sprintf("%s : %s;", g.Name, kindText(k))
			if k == g.Kind {
				checked(t, unitWith(api.Program, api.Extern, decl))
			} else {
				refuse(t, unitsAhead, wrong{unitWith(api.Program, api.Extern, "^"+decl), api.ErrKind})
			}
		}
	}
	refuse(t, unitsAhead,
		wrong{unitWith(api.Program, api.Extern, "^x : INT;"), api.ErrName},
		wrong{unitWith(api.Program, api.Extern, "^x : INT := 1;"), api.ErrKind},
		wrong{unitWith(api.Program, api.Extern, "^gf : INT := 1;"), api.ErrKind},
		wrong{unitWith(api.Program, api.Extern, "^gf : INT := 70000;"), api.ErrKind},
	)
}

func kindText(k api.Kind) string {
	return [...]string{api.Bool: "BOOL", api.Int: "INT", api.Dint: "DINT", api.Word: "WORD", api.Time: "TIME"}[k]
}

func TestFirstValues(t *testing.T) {
	// of each kind: what is right, what has the wrong kind, what does not fit
	for _, x := range []struct {
		kind                  api.Kind
		right, kinds, ranging string
	}{
		{api.Bool, "TRUE FALSE", "0 1 70000 -1 T#1s", ""},
		{api.Int, "0 -32768 32767 16#7FFF", "TRUE T#1s", "32768 -32769 16#FFFF 4294967295"},
		{api.Dint, "0 -2147483648 2147483647", "FALSE T#0ms", "2147483648 -2147483649 -4294967295"},
		{api.Word, "0 16#FFFF 65535", "TRUE T#1ms", "-1 65536"},
		{api.Time, "T#0ms T#49d", "0 5 -1 4294967295 TRUE", ""},
	} {
		for _, form := range []string{"x : %s := %s;", "x : ARRAY[0..2] OF %s := %s;"} {
			for _, r := range []api.Role{api.Own, api.Keep} {
				for _, s := range strings.Fields(x.right) {
					us := checked(t, unitWith(api.Block, r, fmt.Sprintf(form, kindText(x.kind), s)))
					if v := us[unitsAhead].Vars[0]; v.Init.Kind != x.kind || v.Init.Form != api.Lit {
						t.Errorf("%s: %+v", s, v)
					}
				}
				for _, s := range strings.Fields(x.kinds) {
					refuse(t, unitsAhead, wrong{unitWith(api.Block, r, fmt.Sprintf(form, kindText(x.kind), "^"+s)), api.ErrKind})
				}
				for _, s := range strings.Fields(x.ranging) {
					refuse(t, unitsAhead, wrong{unitWith(api.Block, r, fmt.Sprintf(form, kindText(x.kind), "^"+s)), api.ErrRange})
				}
			}
		}
	}
	us := checked(t, unitWith(api.Block, api.Input, "x : INT := 3; y : INT;"))
	if a, b := us[unitsAhead].Vars[0].Init, us[unitsAhead].Vars[1].Init; a.Kind != api.Int || b.Form != 0 || b.Kind != api.None {
		t.Errorf("%+v, %+v", a, b)
	}
	refuse(t, unitsAhead, wrong{unitWith(api.Block, api.Output, "x : INT := ^TRUE;"), api.ErrKind}, wrong{unitWith(api.Function, api.Input, "x : INT := ^40000;"), api.ErrRange})
}

func names(first, n int) string {
	return many(n, ", ", func(i int) string { return fmt.Sprint("n", first+i) }) + " : INT; "
}

func TestManyInputs(t *testing.T) {
	function := func(ins, own int, last string) string {
		return "FUNCTION_BLOCK ahead END_FUNCTION_BLOCK ^FUNCTION f : INT VAR_INPUT " + names(0, ins) + "END_VAR VAR " + names(50, own) + "END_VAR VAR_INPUT " + last + " END_VAR EXIT; END_FUNCTION"
	}
	block := func(ins, outs int, last string) string {
		return "FUNCTION ahead : INT END_FUNCTION ^FUNCTION_BLOCK f VAR_OUTPUT " + names(0, outs) + "END_VAR VAR " + names(50, 30) + "END_VAR VAR_INPUT " + names(100, ins) + last + " END_VAR EXIT; END_FUNCTION_BLOCK"
	}
	refuse(t, 1,
		wrong{function(api.MaxArgs, 20, "more : INT;"), api.ErrSize},
		wrong{block(api.MaxArgs, api.MaxArgs, "more : INT;"), api.ErrSize},
		wrong{block(1, 2*api.MaxArgs, ""), api.ErrSize},
		wrong{block(2*api.MaxArgs, 1, ""), api.ErrSize},
	)
	for _, s := range []string{function(api.MaxArgs, 20, ""), block(api.MaxArgs, api.MaxArgs, ""), block(1, 2*api.MaxArgs-1, ""), block(2*api.MaxArgs-1, 1, "")} {
		checked(t, strings.Replace(strings.Replace(s, "^", "", 1), "EXIT;", "", 1))
		s = strings.Replace(strings.Replace(s, "^", "", 1), "EXIT;", "^EXIT;", 1)
		refuse(t, 1, wrong{s, api.ErrLoop})
	}
	// behind all that is wrong with one of them
	s := strings.Replace(function(api.MaxArgs, 20, "more, ^n1 : INT;"), "^", "", 1)
	refuse(t, 1, wrong{s, api.ErrTwice})
	// a program's variables, which no call hands over, are not counted
	checked(t, "PROGRAM p VAR "+names(0, 150)+" END_VAR END_PROGRAM")
}

// Of several faults of a variable that one is told which the chapter names first, and those of a variable ahead come first.
func TestOrderOfVariables(t *testing.T) {
	refuse(t, unitsAhead,
		wrong{unitWith(api.Program, api.Own, "a : INT := ^TRUE; a : INT;"), api.ErrKind},
		wrong{unitWith(api.Program, api.Input, "^a : INT := TRUE;"), api.ErrKind},
		wrong{unitWith(api.Program, api.Own, "a : INT; END_VAR VAR_OUTPUT ^a : ton;"), api.ErrTwice},
		wrong{unitWith(api.Function, api.Own, "^a : none := 1; a : INT;"), api.ErrKind},
		wrong{unitWith(api.Block, api.Input, "^a : ARRAY[1..2] OF INT := TRUE;"), api.ErrKind},
		wrong{unitWith(api.Program, api.Extern, "^gm : ARRAY[1..2] OF INT := TRUE;"), api.ErrKind},
	)
	refuse(t, 0, wrong{"PROGRAM p VAR a : INT := ^70000; END_VAR EXIT; END_PROGRAM PROGRAM p END_PROGRAM", api.ErrRange})
}
