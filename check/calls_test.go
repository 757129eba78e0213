package check_test

import (
	"fmt"
	"strings"
	"testing"

	"plantwright/api"
)

func TestAlikeFunctions(t *testing.T) {
	kinds(t,
		right{"a := abs(a);", "abs(a:i):i"}, right{"d := abs(-5);", "abs(-5:d):d"}, right{"a := abs(-(5));", "abs(22(5:i):i):i"},
		right{"b := abs(-5) = d;", "9(abs(-5:d):d d:d):b"},
		right{"a := min(1, 2);", "min(1:i 2:i):i"}, right{"w := max(w, 2);", "max(w:w 2:w):w"}, right{"z := min(z, T#1s);", "min(z:t 1000:t):t"}, right{"d := max(70000, d);", "max(70000:d d:d):d"},
		right{"b := max(1, 2) = 3;", "9(max(1:d 2:d):d 3:d):b"}, right{"w := min(65535, 1);", "min(65535:w 1:w):w"},
		right{"a := limit(1, a, 9);", "limit(1:i a:i 9:i):i"}, right{"w := limit(w, 5, 65535);", "limit(w:w 5:w 65535:w):w"}, right{"d := limit(1, 2, 3);", "limit(1:d 2:d 3:d):d"}, right{"z := limit(z, z, z);", "limit(z:t z:t z:t):t"},
		right{"a := sel(b, 1, a);", "sel(b:b 1:i a:i):i"}, right{"b := sel(a < 1, b, TRUE);", "sel(11(a:i 1:i):b b:b 1:b):b"}, right{"w := sel(b, 1, 65535);", "sel(b:b 1:w 65535:w):w"}, right{"z := sel(b, z, T#1s);", "sel(b:b z:t 1000:t):t"},
		right{"b := sel(b, 1, 2) = 3;", "9(sel(b:b 1:d 2:d):d 3:d):b"},
	)
	refuseIn(t,
		wrong{"w := ^abs(w);", api.ErrKind}, wrong{"b := ^abs(b);", api.ErrKind}, wrong{"z := ^abs(z);", api.ErrKind}, wrong{"w := ^abs(5);", api.ErrKind}, wrong{"z := abs(^5);", api.ErrKind}, wrong{"d := ^abs(a);", api.ErrKind}, wrong{"a := abs(^40000);", api.ErrRange},
		wrong{"b := ^min(b, b);", api.ErrKind}, wrong{"a := ^max(a, d);", api.ErrKind}, wrong{"a := max(^70000, a);", api.ErrRange}, wrong{"b := max(^1, 2);", api.ErrKind}, wrong{"d := ^max(a, 1);", api.ErrKind}, wrong{"a := max(70000, ^none);", api.ErrName},
		wrong{"b := ^limit(b, b, b);", api.ErrKind}, wrong{"a := ^limit(1, a, b);", api.ErrKind}, wrong{"a := limit(^70000, a, b);", api.ErrRange}, wrong{"a := limit(70000, a, ^none);", api.ErrName}, wrong{"a := ^limit(d, a, a);", api.ErrKind}, wrong{"a := ^limit(a, d, a);", api.ErrKind}, wrong{"a := limit(1, 2, ^40000);", api.ErrRange},
		wrong{"a := sel(^a, 1, 2);", api.ErrKind}, wrong{"a := sel(^1, 1, 2);", api.ErrKind}, wrong{"a := sel(^a, none, 2);", api.ErrKind}, wrong{"a := sel(^none, none, 2);", api.ErrName}, wrong{"a := ^sel(b, a, d);", api.ErrKind}, wrong{"a := sel(b, 70000, ^none);", api.ErrName},
		wrong{"b := sel(b, TRUE, ^1);", api.ErrKind}, wrong{"b := sel(b, ^0, 1);", api.ErrKind}, wrong{"d := ^sel(b, a, 1);", api.ErrKind}, wrong{"a := sel(a ^+ 1, 1, 2);", api.ErrKind},
	)
}

func TestShifts(t *testing.T) {
	for _, f := range strings.Fields("shl shr rol ror") {
		kinds(t,
			right{"w := " + f + "(w, a);", f + "(w:w a:i):w"}, right{"w := " + f + "(65535, 32767);", f + "(65535:w 32767:i):w"}, right{"b := " + f + "(1, -1) = w;", "9(" + f + "(1:w -1:i):w w:w):b"},
		)
		refuseIn(t,
			wrong{"w := " + f + "(^a, 1);", api.ErrKind}, wrong{"w := " + f + "(^a, none);", api.ErrKind}, wrong{"w := " + f + "(w, ^d);", api.ErrKind}, wrong{"w := " + f + "(w, ^w);", api.ErrKind},
			wrong{"w := " + f + "(w, ^40000);", api.ErrRange}, wrong{"w := " + f + "(^-1, d);", api.ErrRange}, wrong{"a := ^" + f + "(w, 1);", api.ErrKind}, wrong{"w := " + f + "(^none, none);", api.ErrName}, wrong{"w := " + f + "(w, ^TRUE);", api.ErrKind},
		)
	}
}

func TestConversions(t *testing.T) {
	words := map[string]string{"b": "bool", "i": "int", "d": "dint", "w": "word", "t": "time"}
	for k, from := range words {
		for l, to := range words {
			name := from + "_to_" + to
			if k == l {
				refuseIn(t, wrong{fmt.Sprintf("%s := ^%s(%s);", varOf[l], name, varOf[k]), api.ErrName})
				continue
			}
			kinds(t, right{fmt.Sprintf("%s := %s(%s);", varOf[l], name, varOf[k]), fmt.Sprintf("%s(%s:%s):%s", name, varOf[k], k, l)})
			refuseIn(t,
				wrong{fmt.Sprintf("%s := ^%s(%s);", varOf[k], name, varOf[k]), api.ErrKind},
				wrong{fmt.Sprintf("%s := %s(^%s);", varOf[l], name, varOf[l]), api.ErrKind},
				wrong{fmt.Sprintf("%s := %s(^none);", varOf[l], name), api.ErrName},
				wrong{fmt.Sprintf("%s := ^%s(%s, 1);", varOf[l], name, varOf[k]), api.ErrCall},
			)
		}
	}
	kinds(t, right{"w := int_to_word(-1);", "int_to_word(-1:i):w"}, right{"a := dint_to_int(2147483647);", "dint_to_int(2147483647:d):i"})
	refuseIn(t,
		wrong{"w := word_to_int(^-1);", api.ErrRange}, wrong{"a := bool_to_int(^1);", api.ErrKind}, wrong{"a := time_to_int(^1);", api.ErrKind}, wrong{"a := bool_to_int(^1 + 2);", api.ErrKind},
		wrong{"a := word_to_int(1 ^+ 2);", api.ErrKind}, wrong{"w := int_to_word(d ^+ 1);", api.ErrKind},
	)
}

func TestFunctionsAhead(t *testing.T) {
	kinds(t,
		right{"a := twice(a);", "twice(a:i):i"}, right{"a := twice(5);", "twice(5:i):i"}, right{"a := twice(twice(y[1]));", "twice(twice(y[1:d]:i):i):i"},
		right{"w := mixed(b, 70000, z);", "mixed(b:b 70000:d z:t):w"}, right{"w := mixed(1 < 2, d, T#1s);", "mixed(11(1:d 2:d):b d:d 1000:t):w"},
	)
	refuseIn(t,
		wrong{"a := twice(^d);", api.ErrKind}, wrong{"a := twice(^40000);", api.ErrRange}, wrong{"a := twice(^TRUE);", api.ErrKind}, wrong{"d := ^twice(a);", api.ErrKind}, wrong{"a := twice(^none);", api.ErrName},
		wrong{"w := mixed(^1, none, none);", api.ErrKind}, wrong{"w := mixed(^a, none, none);", api.ErrKind}, wrong{"w := mixed(b, ^a, none);", api.ErrKind}, wrong{"w := mixed(b, d, ^a);", api.ErrKind}, wrong{"w := mixed(b, d, ^1);", api.ErrKind},
		wrong{"a := ^none(none);", api.ErrName}, wrong{"a := ^fb(1);", api.ErrName}, wrong{"a := ^before(1);", api.ErrName}, wrong{"a := ^p(1);", api.ErrName}, wrong{"a := ^ton(1);", api.ErrName}, wrong{"a := ^a(1);", api.ErrName}, wrong{"a := ^y(1);", api.ErrName}, wrong{"a := ^neg(1);", api.ErrName},
	)
	refuse(t, 0, wrong{"PROGRAM p VAR a : INT; END_VAR a := ^f(a); END_PROGRAM FUNCTION f : INT VAR_INPUT x : INT; END_VAR END_FUNCTION", api.ErrName})
}

func TestNumberOfArguments(t *testing.T) {
	for name, n := range map[string]int{"abs": 1, "min": 2, "max": 2, "limit": 3, "sel": 3, "shl": 2, "shr": 2, "rol": 2, "ror": 2, "word_to_int": 1, "twice": 1, "mixed": 3, "alone": 0} {
		for i := 1; i <= api.MaxArgs; i++ {
			if i == n {
				refuseIn(t, wrong{"a := " + name + "(^none" + strings.Repeat(", none", i-1) + ");", api.ErrName})
			} else {
				refuseIn(t, wrong{"a := ^" + name + "(none" + strings.Repeat(", none", i-1) + ");", api.ErrCall})
			}
		}
	}
}

// Hidden names, which no text has, are names as others.
func TestHiddenNames(t *testing.T) {
	ref := api.Expr{Form: api.Ref, Name: "%2", At: 9}
	us := []api.Unit{
		{Kind: api.Function, Name: "%0", Result: api.Bool, Vars: []api.Var{{Name: "%1", Role: api.Input, Kind: api.Bool}}},
		{Kind: api.Program, Name: "%1", Vars: []api.Var{{Name: "%2", Role: api.Own, Kind: api.Bool}}, Body: []api.Stmt{
			{Verb: api.Set, Name: "%2", E: []api.Expr{{Form: api.Call, Name: "%0", Kids: []api.Expr{ref}}}},
		}},
	}
	accepted(t, us)
	us[1].Vars[0].Name = "%1"
	us[1].Vars[0].At = 4
	refused(t, us, nil, api.Fault{Code: api.ErrTwice, Unit: 1, At: 4})
	us[1].Vars[0].Name = "%3"
	us[1].Body[0].At = 6
	refused(t, us, nil, api.Fault{Code: api.ErrName, Unit: 1, At: 6})
	us[1].Body[0].Name = "%3"
	refused(t, us, nil, api.Fault{Code: api.ErrName, Unit: 1, At: 9})
	us[1].Name = "%0"
	us[1].At = -7
	refused(t, us, nil, api.Fault{Code: api.ErrTwice, Unit: 1, At: -7})
}
