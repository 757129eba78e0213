package source_test

import (
	"reflect"
	"strings"
	"testing"

	"plantwright/api"
	"plantwright/source"
)

func TestShowUnits(t *testing.T) {
	for text, want := range map[string]string{
		"PROGRAM p VAR a : INT := -3; END_VAR a := a - 1 - (2); END_PROGRAM": "PROGRAM p\nVAR\n  a : INT := -3;\nEND_VAR\n  a := a - 1 - 2;\nEND_PROGRAM\n",
		"program P end_program":                                        "PROGRAM p\nEND_PROGRAM\n",
		"FUNCTION f : TIME f := T#90s; END_FUNCTION":                   "FUNCTION f : TIME\n  f := T#1m30s;\nEND_FUNCTION\n",
		"FUNCTION_BLOCK b RETURN; RETURN; END_FUNCTION_BLOCK":          "FUNCTION_BLOCK b\n  RETURN;\n  RETURN;\nEND_FUNCTION_BLOCK\n",
		"FUNCTION f : BOOL VAR END_VAR VAR_INPUT END_VAR END_FUNCTION": "FUNCTION f : BOOL\nEND_FUNCTION\n",
	} {
		if got := source.Show(one(t, text)); got != want {
			t.Errorf("%q is shown as %q, not %q", text, got, want)
		}
	}
}

func TestShowHeads(t *testing.T) {
	u := one(t, `PROGRAM p VAR a, B : BOOL := TRUE; END_VAR VAR c : DINT := 16#10; END_VAR VAR RETAIN d : WORD; END_VAR VAR e : Ton; END_VAR
		VAR_INPUT f : ARRAY[-2..3] OF TIME := T#1500ms; END_VAR VAR_OUTPUT g : INT := -0; END_VAR VAR_EXTERNAL h : INT := FALSE; i : ARRAY[7..7] OF BOOL; END_VAR END_PROGRAM`)
	want := `PROGRAM p
VAR
  a : BOOL := TRUE;
  b : BOOL := TRUE;
  c : DINT := 16;
END_VAR
VAR RETAIN
  d : WORD;
END_VAR
VAR
  e : ton;
END_VAR
VAR_INPUT
  f : ARRAY[-2..3] OF TIME := T#1s500ms;
END_VAR
VAR_OUTPUT
  g : INT := 0;
END_VAR
VAR_EXTERNAL
  h : INT := FALSE;
  i : ARRAY[7..7] OF BOOL;
END_VAR
END_PROGRAM
`
	if got := source.Show(u); got != want {
		t.Errorf("%s, not\n%s", got, want)
	}
	again(t, u, true)
}

func TestShowStatements(t *testing.T) {
	u := one(t, `PROGRAM p a := b; a[b+1] := c; x(); x(a := 1+2, b => c, d := NOT e);
		IF a THEN ELSIF b THEN EXIT; ELSE IF c THEN EXIT; ELSE END_IF; END_IF;
		CASE a OF 1, 3..5: EXIT; CASE b OF -1..1: EXIT; ELSE RETURN; END_CASE; 2..2: ELSE EXIT; END_CASE; CASE a OF 1: ELSE END_CASE;
		FOR i := 1 TO 9 BY 2 DO CONTINUE; FOR j := -3 TO -5 BY 1 DO END_FOR; END_FOR;
		WHILE a OR b MAX 9 DO EXIT; END_WHILE; REPEAT CONTINUE; UNTIL a MAX 10000 END_REPEAT; RETURN; END_PROGRAM`)
	want := `PROGRAM p
  a := b;
  a[b + 1] := c;
  x();
  x(a := 1 + 2, b => c, d := NOT e);
  IF a THEN
  ELSIF b THEN
    EXIT;
  ELSE
    IF c THEN
      EXIT;
    END_IF;
  END_IF;
  CASE a OF
    1, 3..5:
      EXIT;
      CASE b OF
        -1..1:
          EXIT;
      ELSE
        RETURN;
      END_CASE;
    2:
  ELSE
    EXIT;
  END_CASE;
  CASE a OF
    1:
  END_CASE;
  FOR i := 1 TO 9 BY 2 DO
    CONTINUE;
    FOR j := -3 TO -5 DO
    END_FOR;
  END_FOR;
  WHILE a OR b MAX 9 DO
    EXIT;
  END_WHILE;
  REPEAT
    CONTINUE;
  UNTIL a MAX 10000
  END_REPEAT;
  RETURN;
END_PROGRAM
`
	if got := source.Show(u); got != want {
		t.Errorf("%s, not\n%s", got, want)
	}
	again(t, u, true)
}

// shownExpr: how an expression is shown in a statement.
func shownExpr(e api.Expr) string {
	s := source.Show(api.Unit{Kind: api.Program, Name: "p", Body: []api.Stmt{{Verb: api.Set, Name: "a", E: []api.Expr{e}}}})
	s, _ = strings.CutPrefix(s, "PROGRAM p\n  a := ")
	s, _ = strings.CutSuffix(s, ";\nEND_PROGRAM\n")
	return s
}

func TestShowExpressions(t *testing.T) {
	for text, want := range map[string]string{
		"a-1-(2)": "a - 1 - 2", "a-(1-2)": "a - (1 - 2)", "(a-1)-2": "a - 1 - 2", "a+(b*c)": "a + b * c", "(a+b)*c": "(a + b) * c", "a*(b*c)": "a * (b * c)", "a/(b MOD c)": "a / (b MOD c)",
		"-(5)": "-(5)", "-5": "-5", "-(0)": "-(0)", "-0": "0", "--5": "--5", "-(-(5))": "--(5)", "-(a)": "-a", "-(a+b)": "-(a + b)", "NOT(5)": "NOT 5", "NOT(-5)": "NOT -5", "not(a and b)": "NOT (a AND b)", "(not a) and b": "NOT a AND b", "-(T#5s)": "-T#5s", "-(TRUE)": "-TRUE", "-(not a)": "-NOT a", "not not a": "NOT NOT a",
		"a&b": "a AND b", "a or (b xor c)": "a OR b XOR c", "(a or b) xor c": "(a OR b) XOR c", "a=(b<>c)": "a = (b <> c)", "(a=b)<>c": "a = b <> c", "a<(b=c)": "a < (b = c)", "a=(b<c)": "a = b < c", "(a<b)<c": "a < b < c", "a<(b<c)": "a < (b < c)", "a<=b>=c": "a <= b >= c", "a or (b or c)": "a OR (b OR c)",
		"a-(-5)": "a - -5", "(-5)-a": "-5 - a", "a-(-b)": "a - -b", "(-a)*b": "-a * b", "a mod (b)": "a MOD b", "A[(i)]": "a[i]", "a [ (i+1)*2 ]": "a[(i + 1) * 2]", "t . q": "t.q", "MAX(a,(b),c+(d))": "max(a, b, c + d)", "f((a+b))": "f(a + b)",
		"16#fF": "255", "2#11": "3", "1_000": "1000", "t#3600s": "T#1h", "TIME#0s": "T#0ms", "true": "TRUE", "False": "FALSE", "(((a)))": "a", "a+b+c*d*e": "a + b + c * d * e", "a*b+c": "a * b + c",
	} {
		e, _, f := source.Expression(text, 0)
		if got := shownExpr(e); f != (api.Fault{}) || got != want {
			t.Errorf("%q is shown as %q, not %q (%v)", text, got, want, f)
		}
	}
}

// Brackets around operands of all operators: one stands just where leaving it out would change the tree.
func TestBrackets(t *testing.T) {
	var ops []api.Op
	for op := api.Add; op <= api.Ge; op++ {
		ops = append(ops, op)
	}
	a, b, c := ref("a", 0), ref("b", 0), ref("c", 0)
	for _, outer := range ops {
		for _, inner := range ops {
			for _, e := range []api.Expr{
				bin(outer, bin(inner, a, b), c), bin(outer, a, bin(inner, b, c)), bin(outer, bin(inner, a, b), bin(inner, b, c)), un(api.Not, bin(inner, a, b)), un(api.Neg, bin(outer, un(api.Neg, lit(1, 0)), lit(-1, 0))),
				bin(outer, un(api.Not, bin(inner, a, b)), un(api.Neg, c)), {Form: api.Call, Name: "f", Kids: []api.Expr{bin(outer, a, bin(inner, b, c)), bin(inner, a, b)}}, {Form: api.Item, Name: "a", Kids: []api.Expr{bin(outer, a, bin(inner, b, c))}},
			} {
				brackets(t, e)
			}
		}
	}
}

func brackets(t *testing.T, e api.Expr) {
	t.Helper()
	s := shownExpr(e)
	back, end, f := source.Expression(s, 0)
	if end != len(s) || f != (api.Fault{}) || !reflect.DeepEqual(plainExpr(back), plainExpr(e)) {
		t.Errorf("%q is shown of %s: %v", s, told(e), f)
	}
	for i := range s {
		if s[i] != '(' || i > 0 && s[i-1] == 'f' {
			continue
		}
		less := s[:i] + s[i+1:shuts(s, i)] + s[shuts(s, i)+1:]
		if other, end, f := source.Expression(less, 0); f.Code == api.OK && end == len(less) && reflect.DeepEqual(plainExpr(other), plainExpr(e)) {
			t.Errorf("%q is shown, %q would do", s, less)
		}
	}
}

// shuts: where the bracket that opens at i shuts.
func shuts(s string, i int) int {
	for deep := 0; ; i++ {
		switch s[i] {
		case '(':
			deep++
		case ')':
			if deep--; deep == 0 {
				return i
			}
		}
	}
}

func TestShowHidden(t *testing.T) {
	u := one(t, rich)
	u.Name, u.Vars[0].Name, u.Vars[3].Of, u.Body[set].Name, u.Body[inRef].E[0].Name = "%0", "%12", "%3", "%4", "%999999999"
	s := source.Show(u)
	for _, part := range []string{"FUNCTION %0 : INT\n", "\n  %12 : INT := 3;\n", "\n  x : %3;\n", "\n  %4 := -5;\n", "\n  a := %999999999;\n"} {
		if !strings.Contains(s, part) {
			t.Errorf("no %q in %q", part, s)
		}
	}
}

// What is handed in is not changed, its spare room neither.
func TestNotChanged(t *testing.T) {
	u, want := one(t, rich), one(t, rich)
	u.Body = append(make([]api.Stmt, 0, 100), u.Body...)
	u.Vars = append(make([]api.Var, 0, 100), u.Vars...)
	u.Body[inCall].E[0].Kids = append(make([]api.Expr, 0, 10), u.Body[inCall].E[0].Kids...)
	source.May(u)
	source.Show(u)
	if !reflect.DeepEqual(u, want) {
		t.Errorf("%+v, not %+v", u, want)
	}
	for _, s := range u.Body[len(u.Body):cap(u.Body)] {
		if !reflect.DeepEqual(s, api.Stmt{}) {
			t.Errorf("%+v in the spare room", s)
		}
	}
	for _, e := range u.Body[inCall].E[0].Kids[2:10] {
		if !reflect.DeepEqual(e, api.Expr{}) {
			t.Errorf("%+v in the spare room", e)
		}
	}
}
