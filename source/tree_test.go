package source_test

import (
	"reflect"
	"strings"
	"testing"

	"plantwright/api"
	"plantwright/source"
)

func lit(n, at int) api.Expr {
	return api.Expr{Form: api.Lit, N: n, At: at}
}

func ref(name string, at int) api.Expr {
	return api.Expr{Form: api.Ref, Name: name, At: at}
}

// same: is this the tree? Empty lists aside.
func same(t *testing.T, s string, got, want any) {
	t.Helper()
	if !reflect.DeepEqual(got, want) {
		t.Errorf("%s:\n%+v, not\n%+v", s, got, want)
	}
}

func TestUnits(t *testing.T) {
	s := "PROGRAM p VAR a : INT := -3; END_VAR a := a - 1 - (2); END_PROGRAM\nFUNCTION f : WORD END_FUNCTION FUNCTION_BLOCK Fb END_FUNCTION_BLOCK"
	minus := api.Expr{Form: api.Bin, Op: api.Sub, At: 44, Kids: []api.Expr{ref("a", 42), lit(1, 46)}}
	want := []api.Unit{
		{
			Kind: api.Program, Name: "p",
			Vars: []api.Var{{Name: "a", Role: api.Own, Kind: api.Int, Init: lit(-3, 25), At: 14}},
			Body: []api.Stmt{{Verb: api.Set, At: 37, Name: "a", E: []api.Expr{{Form: api.Bin, Op: api.Sub, At: 48, Kids: []api.Expr{minus, lit(2, 51)}}}}},
		},
		{Kind: api.Function, Name: "f", Result: api.Word, At: 67},
		{Kind: api.Block, Name: "fb", At: 98},
	}
	got, f := source.Parse(s)
	if f != (api.Fault{}) {
		t.Fatal(f)
	}
	same(t, s, got, want)
	for k, word := range map[api.Kind]string{api.Bool: "BOOL", api.Int: "int", api.Dint: "DINT", api.Word: "WORD", api.Time: "Time"} {
		u := one(t, "FUNCTION f : "+word+" END_FUNCTION")
		if u.Kind != api.Function || u.Result != k {
			t.Errorf("%s: %+v", word, u)
		}
	}
}

func TestVariables(t *testing.T) {
	s := "VAR a, B : BOOL := TRUE; END_VAR VAR RETAIN c : DINT; t : Ton; END_VAR VAR_INPUT d : ARRAY[-2..3] OF WORD := 16#F; END_VAR" +
		" VAR_OUTPUT e : TIME := T#1s; f : fb := - 0; END_VAR VAR END_VAR VAR_EXTERNAL g : INT := FALSE; h : ARRAY[5..5] OF TIME; END_VAR"
	at := func(part string) int { return strings.Index(s, part) }
	yes := api.Expr{Form: api.Lit, Kind: api.Bool, N: 1, At: at("TRUE")}
	got, end, f := source.Heads(s, 0)
	if end != len(s) || f != (api.Fault{}) {
		t.Fatal(end, f)
	}
	same(t, s, got, []api.Var{
		{Name: "a", Role: api.Own, Kind: api.Bool, Init: yes, At: at("a, ")},
		{Name: "b", Role: api.Own, Kind: api.Bool, Init: yes, At: at("B :")},
		{Name: "c", Role: api.Keep, Kind: api.Dint, At: at("c :")},
		{Name: "t", Role: api.Keep, Of: "ton", At: at("t :")},
		{Name: "d", Role: api.Input, Kind: api.Word, Low: -2, Len: 6, Init: lit(15, at("16#F")), At: at("d :")},
		{Name: "e", Role: api.Output, Kind: api.Time, Init: api.Expr{Form: api.Lit, Kind: api.Time, N: 1000, At: at("T#1s")}, At: at("e :")},
		{Name: "f", Role: api.Output, Of: "fb", Init: lit(0, at("- 0")), At: at("f :")},
		{Name: "g", Role: api.Extern, Kind: api.Int, Init: api.Expr{Form: api.Lit, Kind: api.Bool, At: at("FALSE")}, At: at("g :")},
		{Name: "h", Role: api.Extern, Kind: api.Time, Low: 5, Len: 1, At: at("h :")},
	})
}

func TestStatements(t *testing.T) {
	for _, x := range []struct {
		text string
		want api.Stmt
	}{
		{"x := 1;", api.Stmt{Verb: api.Set, Name: "x", E: []api.Expr{lit(1, 15)}}},
		{"x[i] := 1;", api.Stmt{Verb: api.Set, Name: "x", Item: true, E: []api.Expr{lit(1, 18), ref("i", 12)}}},
		{"x();", api.Stmt{Verb: api.Invoke, Name: "x"}},
		{"x(a := 1, B => C);", api.Stmt{Verb: api.Invoke, Name: "x", Args: []api.Arg{{Name: "a", E: lit(1, 17), At: 12}, {Name: "b", Out: true, To: "c", At: 20}}}},
		{"EXIT;", api.Stmt{Verb: api.Exit}}, {"continue;", api.Stmt{Verb: api.Next}}, {"Return;", api.Stmt{Verb: api.Return}},
		{"IF a THEN END_IF;", api.Stmt{Verb: api.If, Arms: []api.Arm{{E: ref("a", 13)}}}},
		{"IF a THEN EXIT; ELSIF b THEN RETURN; ELSIF c THEN ELSE EXIT; EXIT; END_IF;", api.Stmt{Verb: api.If, Arms: []api.Arm{
			{E: ref("a", 13), Body: []api.Stmt{{Verb: api.Exit, At: 20}}},
			{E: ref("b", 32), Body: []api.Stmt{{Verb: api.Return, At: 39}}}, {E: ref("c", 53)},
		}, Else: []api.Stmt{{Verb: api.Exit, At: 65}, {Verb: api.Exit, At: 71}}}},
		{"CASE a OF 1: END_CASE;", api.Stmt{Verb: api.Case, E: []api.Expr{ref("a", 15)}, Arms: []api.Arm{{Labels: [][2]int{{1, 1}}}}}},
		{"CASE a OF 1, -3..-2, 7..7: EXIT; - 2: 16#F..4294967295: ELSE EXIT; END_CASE;", api.Stmt{Verb: api.Case, E: []api.Expr{ref("a", 15)}, Arms: []api.Arm{
			{Labels: [][2]int{{1, 1}, {-3, -2}, {7, 7}}, Body: []api.Stmt{{Verb: api.Exit, At: 37}}}, {Labels: [][2]int{{-2, -2}}}, {Labels: [][2]int{{15, 4294967295}}},
		}, Else: []api.Stmt{{Verb: api.Exit, At: 71}}}},
		{"CASE a OF 1: ELSE END_CASE;", api.Stmt{Verb: api.Case, E: []api.Expr{ref("a", 15)}, Arms: []api.Arm{{Labels: [][2]int{{1, 1}}}}}},
		{"FOR i := 1 TO 9 DO END_FOR;", api.Stmt{Verb: api.For, Name: "i", From: 1, To: 9, By: 1}},
		{"FOR i := -5 TO - 9 BY 2 DO EXIT; END_FOR;", api.Stmt{Verb: api.For, Name: "i", From: -5, To: -9, By: 2, Body: []api.Stmt{{Verb: api.Exit, At: 37}}}},
		{"WHILE a MAX 9 DO EXIT; END_WHILE;", api.Stmt{Verb: api.While, E: []api.Expr{ref("a", 16)}, Times: 9, Body: []api.Stmt{{Verb: api.Exit, At: 27}}}},
		{"REPEAT EXIT; UNTIL a MAX 9 END_REPEAT;", api.Stmt{Verb: api.Repeat, E: []api.Expr{ref("a", 29)}, Times: 9, Body: []api.Stmt{{Verb: api.Exit, At: 17}}}},
	} {
		x.want.At = 10
		same(t, x.text, one(t, body(x.text)).Body, []api.Stmt{x.want})
	}
}

func TestExpressions(t *testing.T) {
	for s, want := range map[string]string{
		"a":                                  "a@0",
		" ( (a) ) ":                          "a@4",
		"a - b - c":                          "bin2@6(bin2@2(a@0 b@4) c@8)",
		"a - (b - c)":                        "bin2@2(a@0 bin2@7(b@5 c@9))",
		"a + b * c":                          "bin1@2(a@0 bin3@6(b@4 c@8))",
		"a / b MOD c":                        "bin5@6(bin4@2(a@0 b@4) c@10)",
		"a OR b XOR c AND d = e < f + g * h": "bin7@2(a@0 bin8@7(b@5 bin6@13(c@11 bin9@19(d@17 bin11@23(e@21 bin1@27(f@25 bin3@31(g@29 h@33)))))))",
		"a * b + c < d = e AND f XOR g OR h": "bin7@30(bin8@24(bin6@18(bin9@14(bin11@10(bin1@6(bin3@2(a@0 b@4) c@8) d@12) e@16) f@22) g@28) h@33)",
		"a & b and c":                        "bin6@6(bin6@2(a@0 b@4) c@10)",
		"a OR b OR c":                        "bin7@7(bin7@2(a@0 b@5) c@10)",
		"a XOR b XOR c":                      "bin8@8(bin8@2(a@0 b@6) c@12)",
		"a = b <> c":                         "bin10@6(bin9@2(a@0 b@4) c@9)",
		"a < b > c <= d >= e":                "bin14@15(bin12@10(bin13@6(bin11@2(a@0 b@4) c@8) d@13) e@18)",
		"NOT a AND b":                        "bin6@6(un21@0(a@4) b@10)",
		"NOT NOT - a":                        "un21@0(un21@4(un22@8(a@10)))",
		"-5":                                 "0:-5@0",
		"- 5":                                "0:-5@0",
		"-(* c *)5":                          "0:-5@0",
		"-(5)":                               "un22@0(0:5@2)",
		"--5":                                "un22@0(0:-5@1)",
		"-0":                                 "0:0@0",
		"-a * b":                             "bin3@3(un22@0(a@1) b@5)",
		"a - -5":                             "bin2@2(a@0 0:-5@4)",
		"a-5":                                "bin2@1(a@0 0:5@2)",
		"-5 - 5":                             "bin2@3(0:-5@0 0:5@5)",
		"-T#1s":                              "un22@0(5:1000@1)",
		"-TRUE":                              "un22@0(1:1@1)",
		"NOT -5":                             "un21@0(0:-5@4)",
		"TRUE":                               "1:1@0",
		"fAlSe":                              "1:0@0",
		"T#2s":                               "5:2000@0",
		"A[b + 1]":                           "a@0[bin1@4(b@2 0:1@6)]",
		"t . Q":                              "t.q@0",
		"f(a)":                               "f@0(a@2)",
		"f(a, -1, g(b), (c))":                "f@0(a@2 0:-1@5 g@9(b@11) c@16)",
		"max(a, b)":                          "max@0(a@4 b@7)",
		"MAX (* c *) (a)":                    "max@0(a@13)",
		"1 + Max(1)":                         "bin1@2(0:1@0 max@4(0:1@8))",
		"a[b[c[d]]]":                         "a@0[b@2[c@4[d@6]]]",
		"(a + b) * c":                        "bin3@8(bin1@3(a@1 b@5) c@10)",
		"NOT (a OR b)":                       "un21@0(bin7@7(a@5 b@10))",
	} {
		e, end, f := source.Expression(s, 0)
		if got := told(e); got != want || end != len(s) || f != (api.Fault{}) {
			t.Errorf("%q: %s, %d, %v, not %s", s, got, end, f, want)
		}
		u := one(t, body("x := "+s+";"))
		if !reflect.DeepEqual(plainExpr(u.Body[0].E[0]), plainExpr(e)) {
			t.Errorf("%q: another one in a statement: %s", s, told(u.Body[0].E[0]))
		}
	}
}

// Of two operators that follow one another the tighter one goes ahead, of those alike the left one.
func TestLevels(t *testing.T) {
	level := map[string]int{"OR": 1, "XOR": 2, "AND": 3, "&": 3, "=": 4, "<>": 4, "<": 5, ">": 5, "<=": 5, ">=": 5, "+": 6, "-": 6, "*": 7, "/": 7, "MOD": 7}
	number := map[string]api.Op{"OR": api.Or, "XOR": api.Xor, "AND": api.And, "&": api.And, "=": api.Eq, "<>": api.Ne, "<": api.Lt, ">": api.Gt, "<=": api.Le, ">=": api.Ge, "+": api.Add, "-": api.Sub, "*": api.Mul, "/": api.Div, "MOD": api.Mod}
	a, b, c := ref("a", 0), ref("b", 0), ref("c", 0)
	for one, l := range level {
		for two, m := range level {
			want := bin(number[two], bin(number[one], a, b), c)
			if m > l {
				want = bin(number[one], a, bin(number[two], b, c))
			}
			s := "a " + one + " b " + two + " c"
			if e, _, f := source.Expression(s, 0); f != (api.Fault{}) || !reflect.DeepEqual(plainExpr(e), want) {
				t.Errorf("%q: %s, %v", s, told(e), f)
			}
			if shown := shownExpr(want); shown != strings.ReplaceAll(s, "&", "AND") {
				t.Errorf("%q is shown as %q", s, shown)
			}
		}
	}
}

// Lists of one answer, and of two, share nothing: what is written into one of them is not seen in another.
func TestNewMemory(t *testing.T) {
	s := "PROGRAM p VAR a, b : INT := 1; END_VAR x[a] := f(a, b) + c; x(a := 1, b := 2); CASE a OF 1, 2: EXIT; EXIT; ELSE EXIT; END_CASE; IF a THEN b := 1; END_IF; END_PROGRAM"
	first, second := one(t, s), one(t, s)
	grow(first.Body)
	first.Vars = append(first.Vars[:1], api.Var{Name: "z"})
	if want := one(t, s); !reflect.DeepEqual(second, want) {
		t.Errorf("%+v, not %+v", second, want)
	}
	if !reflect.DeepEqual(first.Body[1].Args[0].E, lit(99, 0)) || first.Body[0].E[0].Kids[1].Name != "zz" {
		t.Errorf("%+v", first.Body)
	}
}

// grow writes into all lists, their spare room too.
func grow(l []api.Stmt) {
	for i := range l {
		for j := range l[i].Args {
			l[i].Args[j].E = lit(99, 0)
		}
		for j := range l[i].E {
			for k := range l[i].E[j].Kids {
				l[i].E[j].Kids[k] = ref("zz", 0)
			}
			_ = append(l[i].E[j].Kids, lit(98, 0))
		}
		for j := range l[i].Arms {
			grow(l[i].Arms[j].Body)
			_ = append(l[i].Arms[j].Labels, [2]int{97, 97})
		}
		_ = append(l[i].Args, api.Arg{Name: "zz"})
		_ = append(l[i].E, lit(96, 0))
		grow(l[i].Else)
	}
	_ = append(l, api.Stmt{Verb: api.Return})
}
