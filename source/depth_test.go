package source_test

import (
	"strings"
	"testing"

	"plantwright/api"
	"plantwright/source"
)

// nest is a way to stand one deeper: the text around what is inside, and the same as a tree.
type nest struct {
	open, shut string
	tree       func(inside api.Expr) api.Expr
}

func un(op api.Op, e api.Expr) api.Expr {
	return api.Expr{Form: api.Un, Op: op, Kids: []api.Expr{e}}
}

func bin(op api.Op, a, b api.Expr) api.Expr {
	return api.Expr{Form: api.Bin, Op: op, Kids: []api.Expr{a, b}}
}

func nests() []nest {
	return []nest{
		{"NOT ", "", func(e api.Expr) api.Expr { return un(api.Not, e) }},
		{"-", "", func(e api.Expr) api.Expr { return un(api.Neg, e) }},
		{"a[", "]", func(e api.Expr) api.Expr { return api.Expr{Form: api.Item, Name: "a", Kids: []api.Expr{e}} }},
		{"f(", ")", func(e api.Expr) api.Expr { return api.Expr{Form: api.Call, Name: "f", Kids: []api.Expr{e}} }},
		{"max(b, ", ")", func(e api.Expr) api.Expr {
			return api.Expr{Form: api.Call, Name: "max", Kids: []api.Expr{ref("b", 0), e}}
		}},
		{"b * (b + ", ")", func(e api.Expr) api.Expr { return bin(api.Mul, ref("b", 0), bin(api.Add, ref("b", 0), e)) }},
		{"(b + b OR ", ") * b", func(e api.Expr) api.Expr {
			return bin(api.Mul, bin(api.Or, bin(api.Add, ref("b", 0), ref("b", 0)), e), ref("b", 0))
		}},
	}
}

// A statement's expression has depth 2: nested MaxDeep - 2 times it is as deep as it may be.
func TestDeepExpressions(t *testing.T) {
	deepest := api.MaxDeep - 2
	for _, n := range nests() {
		for count, code := range map[int]api.Errno{deepest: api.OK, deepest + 1: api.ErrDeep} {
			e := ref("x", 0)
			for range count {
				e = n.tree(e)
			}
			opened := "a := " + strings.Repeat(n.open, count)
			s := body(opened + "x" + strings.Repeat(n.shut, count) + ";")
			want := api.Fault{Code: code}
			if code != api.OK {
				want.At = firstDeep(len("PROGRAM p ")+len(opened), n)
			}
			if _, f := source.Parse(s); f != want {
				t.Errorf("%d of %q: %v, not %v", count, n.open, f, want)
			}
			u := api.Unit{Kind: api.Program, Name: "p", Body: []api.Stmt{{Verb: api.Set, Name: "a", E: []api.Expr{e}}}}
			if source.May(u) != (code == api.OK) {
				t.Errorf("%d of %q: May is %v", count, n.open, source.May(u))
			}
		}
	}
}

// firstDeep: the first token of what is too deep; with binary operators it is not the innermost name.
func firstDeep(innermost int, n nest) int {
	switch n.open {
	case "b * (b + ":
		return innermost - len("b + ")
	case "max(b, ":
		return innermost - len("b, ")
	case "(b + b OR ":
		return innermost - len("b + b OR ")
	}
	return innermost
}

// Brackets count in a text even where Show leaves them out; a number's sign does not.
func TestDeepBrackets(t *testing.T) {
	deepest := api.MaxDeep - 2
	open, shut := strings.Repeat("(", deepest), strings.Repeat(")", deepest)
	accept(t, "a := "+open+"x"+shut+";", "a := "+open+"-5"+shut+";", "a := "+open+"- 5 + b * c"+shut+";", "x(a := "+open+"b"+shut+");", "b["+open+"1"+shut+"] := "+open+"2"+shut+";")
	refuseIn(t, []wrong{
		{"a := " + open + "(^x)" + shut + ";", api.ErrDeep}, {"a := " + open + "(^(x))" + shut + ";", api.ErrDeep}, {"a := " + open + "(^-5)" + shut + ";", api.ErrDeep}, {"a := " + open + "-^x" + shut + ";", api.ErrDeep},
		{"a := " + open + "-^-5" + shut + ";", api.ErrDeep}, {"a := " + open + "-^(5)" + shut + ";", api.ErrDeep}, {"a := " + open + "1 + NOT ^5" + shut + ";", api.ErrDeep}, {"a := " + open + "b[^1]" + shut + ";", api.ErrDeep}, {"a := " + open + "f(^1)" + shut + ";", api.ErrDeep},
		{"a := " + open + "max(^max(1))" + shut + ";", api.ErrDeep}, {"a := " + open + "(^);", api.ErrText}, {"a := " + open + "(^max);", api.ErrText}, {"a := " + open + "(^1z);", api.ErrText}, {"a := " + open + "(^T#1s %);", api.ErrDeep}, {"a := " + open + "f(^);", api.ErrText},
		{"x(a := " + open + "(^b)" + shut + ");", api.ErrDeep}, {"b[" + open + "(^1)" + shut + "] := 2;", api.ErrDeep}, {"b[1] := " + open + "(^1)" + shut + ";", api.ErrDeep},
	})
}

// around: statements within which a list stands one deeper.
func around() map[string]string {
	return map[string]string{
		"IF a THEN ":              "END_IF;",
		"IF a THEN ELSIF a THEN ": "END_IF;",
		"IF a THEN ELSE ":         "END_IF;",
		"CASE a OF 1: ":           "END_CASE;",
		"CASE a OF 1: EXIT; 2: ":  "END_CASE;",
		"CASE a OF 1: ELSE ":      "END_CASE;",
		"FOR i := 1 TO 2 DO ":     "END_FOR;",
		"WHILE a MAX 1 DO ":       "END_WHILE;",
		"REPEAT ":                 "UNTIL a MAX 1 END_REPEAT;",
		"EXIT; REPEAT UNTIL a MAX 1 END_REPEAT; FOR i := 1 TO 2 DO ": "END_FOR;",
	}
}

// A unit's list has depth 1: one in MaxDeep - 1 others is as deep as it may be, and no expression stands in it.
func TestDeepLists(t *testing.T) {
	for open, shut := range around() {
		ahead, behind := strings.Repeat(open, api.MaxDeep-2), strings.Repeat(shut, api.MaxDeep-2)
		accept(t, ahead+"EXIT; a := b + 1; IF b THEN END_IF; x(a := 1);"+behind)
		refuseIn(t, []wrong{{ahead + "EXIT; a := b * (^b);" + behind, api.ErrDeep}})
		plainLoop := "FOR i := 1 TO 2 DO "
		deep := plainLoop + "EXIT; FOR i := 1 TO 2 DO END_FOR; x(); x(a => b); END_FOR;"
		accept(t, ahead+deep+behind)
		refuseIn(t, []wrong{
			{ahead + plainLoop + "a := ^b; END_FOR;" + behind, api.ErrDeep}, {ahead + plainLoop + "a[^b] := 1; END_FOR;" + behind, api.ErrDeep}, {ahead + plainLoop + "x(b => c, a := ^1); END_FOR;" + behind, api.ErrDeep}, {ahead + plainLoop + "IF ^b THEN END_IF; END_FOR;" + behind, api.ErrDeep},
			{ahead + plainLoop + "CASE ^b OF 1: END_CASE; END_FOR;" + behind, api.ErrDeep}, {ahead + plainLoop + "WHILE ^b MAX 1 DO END_WHILE; END_FOR;" + behind, api.ErrDeep}, {ahead + plainLoop + "REPEAT UNTIL ^b MAX 1 END_REPEAT; END_FOR;" + behind, api.ErrDeep},
			{ahead + plainLoop + plainLoop + "^EXIT; END_FOR; END_FOR;" + behind, api.ErrDeep}, {ahead + plainLoop + plainLoop + "^x(); END_FOR; END_FOR;" + behind, api.ErrDeep}, {ahead + plainLoop + plainLoop + "^IF %" + behind, api.ErrDeep}, {ahead + plainLoop + "REPEAT ^EXIT; UNTIL", api.ErrDeep},
			{ahead + plainLoop + plainLoop + "^END_IF", api.ErrText}, {ahead + plainLoop + plainLoop + "^1", api.ErrText}, {ahead + plainLoop + plainLoop + "^1z", api.ErrText}, {ahead + plainLoop + plainLoop + "^" + strings.Repeat("x", 25), api.ErrLong},
		})
	}
}

func TestDeepTrees(t *testing.T) {
	loop := func(l ...api.Stmt) api.Stmt {
		return api.Stmt{Verb: api.For, Name: "i", From: 1, To: 2, By: 1, Body: l}
	}
	exit := api.Stmt{Verb: api.Exit}
	for name, wrap := range map[string]func(l ...api.Stmt) api.Stmt{
		"for": loop,
		"if": func(l ...api.Stmt) api.Stmt {
			return api.Stmt{Verb: api.If, Arms: []api.Arm{{E: ref("a", 0)}, {E: ref("a", 0), Body: l}}}
		},
		"else": func(l ...api.Stmt) api.Stmt {
			return api.Stmt{Verb: api.If, Arms: []api.Arm{{E: ref("a", 0)}}, Else: l}
		},
		"case": func(l ...api.Stmt) api.Stmt {
			return api.Stmt{Verb: api.Case, E: []api.Expr{ref("a", 0)}, Arms: []api.Arm{{Labels: [][2]int{{1, 2}}, Body: l}}}
		},
		"case else": func(l ...api.Stmt) api.Stmt {
			return api.Stmt{Verb: api.Case, E: []api.Expr{ref("a", 0)}, Arms: []api.Arm{{Labels: [][2]int{{1, 2}}}}, Else: l}
		},
		"while": func(l ...api.Stmt) api.Stmt {
			return api.Stmt{Verb: api.While, E: []api.Expr{ref("a", 0)}, Times: 1, Body: l}
		},
		"repeat": func(l ...api.Stmt) api.Stmt {
			return api.Stmt{Verb: api.Repeat, E: []api.Expr{ref("a", 0)}, Times: 1, Body: l}
		},
	} {
		for _, x := range []struct {
			in  api.Stmt
			may bool
		}{
			{loop(), true}, {loop(exit), true}, {loop(loop()), true}, {loop(loop(exit)), false}, {loop(loop(loop())), false},
			{loop(api.Stmt{Verb: api.Invoke, Name: "x", Args: []api.Arg{{Name: "a", Out: true, To: "b"}}}), true},
			{loop(api.Stmt{Verb: api.Invoke, Name: "x", Args: []api.Arg{{Name: "a", E: ref("b", 0)}}}), false},
			{loop(api.Stmt{Verb: api.Set, Name: "x", E: []api.Expr{lit(1, 0)}}), false},
			{api.Stmt{Verb: api.Set, Name: "x", E: []api.Expr{lit(-1, 0)}}, true}, {api.Stmt{Verb: api.Set, Name: "x", E: []api.Expr{un(api.Neg, lit(-1, 0))}}, false},
			{api.Stmt{Verb: api.Set, Name: "x", E: []api.Expr{bin(api.Add, ref("b", 0), bin(api.Mul, ref("b", 0), lit(1, 0)))}}, true},
			{api.Stmt{Verb: api.Set, Name: "x", E: []api.Expr{bin(api.Mul, ref("b", 0), bin(api.Add, ref("b", 0), lit(1, 0)))}}, false},
			{api.Stmt{Verb: api.Set, Name: "x", Item: true, E: []api.Expr{lit(1, 0), lit(1, 0)}}, true}, {api.Stmt{Verb: api.Set, Name: "x", Item: true, E: []api.Expr{lit(1, 0), un(api.Not, lit(1, 0))}}, false}, {api.Stmt{Verb: api.Set, Name: "x", Item: true, E: []api.Expr{un(api.Not, lit(1, 0)), lit(1, 0)}}, false},
			{loop(wrap()), name == "for"},
		} {
			s := x.in
			for range api.MaxDeep - 2 {
				s = wrap(s)
			}
			u := api.Unit{Kind: api.Program, Name: "p", Body: []api.Stmt{exit, s}}
			if source.May(u) != x.may {
				t.Errorf("%s around %+v: May is %v", name, x.in, !x.may)
			}
			again(t, u, x.may)
		}
	}
}

// again: is what is shown of a unit read again, if it may be, and is it shown as before?
func again(t *testing.T, u api.Unit, may bool) {
	t.Helper()
	s := source.Show(u)
	if !may {
		if s != "" {
			t.Errorf("%q is shown of what may not be", s)
		}
		return
	}
	l, f := source.Parse(s)
	if f != (api.Fault{}) || !alike(l, []api.Unit{u}) {
		t.Errorf("%q is shown of another unit: %v\n%+v", s, f, u)
		return
	}
	if second := source.Show(l[0]); second != s || !source.May(l[0]) {
		t.Errorf("%q is shown the second time, not %q", second, s)
	}
}

// A chain to the left is not deep in its text, however long it is.
func TestLongChains(t *testing.T) {
	s := body("a := 1" + strings.Repeat("+b", 29000) + ";")
	u := one(t, s)
	shown := source.Show(u)
	if !source.May(u) || !strings.HasSuffix(shown, " + b + b;\nEND_PROGRAM\n") || strings.Contains(shown, "(") {
		t.Errorf("May is %v, %d bytes are shown", source.May(u), len(shown))
	}
	e := ref("a", 0)
	for range 1 << 16 {
		e = bin(api.Mod, e, ref("b", 0))
	}
	u.Body[0].E[0] = e
	if shown := source.Show(u); strings.Count(shown, "MOD") != 1<<16 {
		t.Errorf("%d operators are shown", strings.Count(shown, "MOD"))
	}
	e = ref("a", 0)
	for range 1 << 16 {
		e = bin(api.Mod, ref("b", 0), e)
	}
	u.Body[0].E[0] = e
	if source.May(u) {
		t.Error("a chain to the right may be")
	}
}
