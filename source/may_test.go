package source_test

import (
	"math"
	"strings"
	"testing"

	"plantwright/api"
	"plantwright/source"
)

// rich: a unit that may be, with everything in it.
const rich = `FUNCTION f : INT
VAR_INPUT a : INT := 3; b : BOOL; arr : ARRAY[-2..3] OF WORD; END_VAR
VAR x : ton; END_VAR
a := -5;
arr[a] := b;
x(in := b, q => a);
IF a THEN EXIT; ELSE EXIT; END_IF;
CASE a OF 1, 3..5: EXIT; ELSE EXIT; END_CASE;
FOR a := 1 TO 9 BY 2 DO EXIT; END_FOR;
WHILE b MAX 7 DO EXIT; END_WHILE;
REPEAT EXIT; UNTIL b MAX 7 END_REPEAT;
EXIT; CONTINUE; RETURN;
a := a[1]; a := x.q; a := NOT b; a := a + b; a := max(a, b); a := T#5s; a := TRUE; a := b;
END_FUNCTION`

// The places of the statements of rich.
const (
	set = iota
	item
	invoke
	choice
	cases
	loop
	while
	repeat
	exit
	next
	leave
	inItem
	inPart
	inUn
	inBin
	inCall
	inTime
	inBool
	inRef
)

// expr: the expression of a statement that sets.
func expr(u *api.Unit, i int) *api.Expr {
	return &u.Body[i].E[0]
}

// edit: what is done to rich, and whether it may be then.
type edit struct {
	name string
	may  bool
	do   func(u *api.Unit)
}

func edits(t *testing.T, l []edit) {
	t.Helper()
	for _, x := range l {
		u := one(t, rich)
		x.do(&u)
		if source.May(u) != x.may {
			t.Errorf("%s: May is %v", x.name, !x.may)
		}
		if shown := source.Show(u); (shown != "") != x.may {
			t.Errorf("%s: %q is shown", x.name, shown)
		}
	}
}

func TestMayUnit(t *testing.T) {
	edits(t, []edit{
		{"as it is", true, func(u *api.Unit) {}},
		{"places", true, func(u *api.Unit) {
			u.At, u.Vars[0].At, u.Vars[1].Init.At, u.Body[set].At, u.Body[invoke].Args[1].E.At, u.Body[cases].Arms[0].E.At = -1, 70000, -5, math.MinInt, 9, 9
		}},
		{"kind 0", false, func(u *api.Unit) { u.Kind = 0 }}, {"kind 4", false, func(u *api.Unit) { u.Kind = 4 }}, {"kind below", false, func(u *api.Unit) { u.Kind = -1 }}, {"kind great", false, func(u *api.Unit) { u.Kind = math.MaxInt }},
		{"program with a result", false, func(u *api.Unit) { u.Kind = api.Program }}, {"block with a result", false, func(u *api.Unit) { u.Kind = api.Block }},
		{"program", true, func(u *api.Unit) { u.Kind, u.Result = api.Program, api.None }}, {"block", true, func(u *api.Unit) { u.Kind, u.Result = api.Block, api.None }},
		{"no result", false, func(u *api.Unit) { u.Result = api.None }}, {"result 6", false, func(u *api.Unit) { u.Result = 6 }}, {"result -1", false, func(u *api.Unit) { u.Result = -1 }}, {"time", true, func(u *api.Unit) { u.Result = api.Time }}, {"bool", true, func(u *api.Unit) { u.Result = api.Bool }},
		{"nothing in it", true, func(u *api.Unit) { u.Vars, u.Body = nil, []api.Stmt{} }},
		{"MaxVars", true, func(u *api.Unit) { u.Vars = make([]api.Var, api.MaxVars); fillVars(u.Vars) }}, {"more than MaxVars", false, func(u *api.Unit) { u.Vars = make([]api.Var, api.MaxVars+1); fillVars(u.Vars) }},
	})
	if source.May(api.Unit{}) || source.Show(api.Unit{}) != "" {
		t.Error("no unit may be")
	}
}

func fillVars(l []api.Var) {
	for i := range l {
		l[i] = api.Var{Name: "v", Role: api.Own, Kind: api.Int}
	}
}

// names that may be, and such that may not.
func goodNames() []string {
	return []string{"a", "_", "__", "z9", "a_b", strings.Repeat("n", api.MaxName), "t", "ton", "min", "%0", "%1", "%9", "%10", "%123456789", "%999999999", "maxx", "tim", "end"}
}

func badNames() []string {
	return []string{"", "A", "aB", "Z", "aZ", "9", "9a", "a b", "a.b", " a", "a-", "é", "a\x00", "%", "%00", "%01", "%-1", "%a", "%1a", "%1234567890", "%%1", "1%", "%1 ", "a%", "ſ", strings.Repeat("n", api.MaxName+1), "if", "prev", "true", "int", "t#", "\xff"}
}

func TestMayNames(t *testing.T) {
	for _, place := range []struct {
		name string
		max  bool
		put  func(u *api.Unit, s string)
	}{
		{"unit", false, func(u *api.Unit, s string) { u.Name = s }}, {"variable", false, func(u *api.Unit, s string) { u.Vars[1].Name = s }}, {"block", false, func(u *api.Unit, s string) { u.Vars[3].Of = s }},
		{"set", false, func(u *api.Unit, s string) { u.Body[set].Name = s }}, {"item", false, func(u *api.Unit, s string) { u.Body[item].Name = s }}, {"invoke", false, func(u *api.Unit, s string) { u.Body[invoke].Name = s }},
		{"input", false, func(u *api.Unit, s string) { u.Body[invoke].Args[0].Name = s }}, {"output", false, func(u *api.Unit, s string) { u.Body[invoke].Args[1].Name = s }}, {"to", false, func(u *api.Unit, s string) { u.Body[invoke].Args[1].To = s }}, {"for", false, func(u *api.Unit, s string) { u.Body[loop].Name = s }},
		{"ref", false, func(u *api.Unit, s string) { expr(u, inRef).Name = s }}, {"item of", false, func(u *api.Unit, s string) { expr(u, inItem).Name = s }}, {"part of", false, func(u *api.Unit, s string) { expr(u, inPart).Name = s }}, {"part", false, func(u *api.Unit, s string) { expr(u, inPart).Part = s }}, {"call", true, func(u *api.Unit, s string) { expr(u, inCall).Name = s }},
	} {
		for _, s := range goodNames() {
			edits(t, []edit{{place.name + " " + s, true, func(u *api.Unit) { place.put(u, s) }}})
		}
		for _, s := range badNames() {
			edits(t, []edit{{place.name + " " + s, false, func(u *api.Unit) { place.put(u, s) }}})
		}
		edits(t, []edit{{place.name + " max", place.max, func(u *api.Unit) { place.put(u, "max") }}})
	}
}

func TestMayVar(t *testing.T) {
	var l []edit
	add := func(name string, may bool, do func(v *api.Var)) {
		l = append(l, edit{name, may, func(u *api.Unit) { do(&u.Vars[0]) }})
	}
	for r := api.Role(-1); r <= 7; r++ {
		add("role", r >= api.Own && r <= api.Keep, func(v *api.Var) { v.Role = r })
	}
	for k := api.Kind(-1); k <= 7; k++ {
		add("kind", k >= api.Bool && k <= api.Time, func(v *api.Var) { v.Kind = k })
	}
	add("kind and block", false, func(v *api.Var) { v.Of = "ton" })
	add("block", true, func(v *api.Var) { v.Kind, v.Of = api.None, "ton" })
	add("block with a length", false, func(v *api.Var) { v.Kind, v.Of, v.Len = api.None, "ton", 1 })
	add("block with a low", false, func(v *api.Var) { v.Kind, v.Of, v.Low = api.None, "ton", 1 })
	for _, x := range []struct {
		low, length int
		may         bool
	}{
		{0, 0, true}, {1, 0, false}, {-1, 0, false}, {0, 1, true}, {0, -1, false}, {5, -1, false}, {0, api.MaxLen, true}, {0, api.MaxLen + 1, false}, {-3, api.MaxLen, true}, {math.MinInt, 1, false}, {math.MaxInt, 1, false}, {math.MaxInt, 2, false}, {0, math.MaxInt, false}, {0, math.MinInt, false},
		{api.MaxNumber, 1, true}, {api.MaxNumber, 2, false}, {api.MaxNumber + 1, 1, false}, {api.MaxNumber - 999, 1000, true}, {api.MaxNumber - 998, 1000, false}, {-api.MaxNumber, 1000, true}, {-api.MaxNumber - 1, 1000, false}, {-api.MaxNumber - 1, 2, false},
	} {
		add("array", x.may, func(v *api.Var) { v.Low, v.Len = x.low, x.length })
	}
	add("no first", true, func(v *api.Var) { v.Init = api.Expr{} })
	add("first of a block", true, func(v *api.Var) { v.Kind, v.Of = api.None, "ton" })
	for _, e := range []api.Expr{lit(api.MaxNumber, 0), lit(-api.MaxNumber, 0), lit(0, 0), {Form: api.Lit, Kind: api.Bool, N: 1}, {Form: api.Lit, Kind: api.Time, N: 4294967295}, {At: 7}, {Kids: []api.Expr{}}} {
		add("first "+told(e), true, func(v *api.Var) { v.Init = e })
	}
	for _, e := range []api.Expr{lit(api.MaxNumber+1, 0), lit(-api.MaxNumber-1, 0), ref("a", 0), un(api.Neg, lit(5, 0)), {N: 1}, {Name: "a"}, {Part: "a"}, {Op: api.Not}, {Kind: api.Bool}, {Kids: make([]api.Expr, 1)}, {Form: api.Lit, Kind: api.Bool, N: 2}, {Form: api.Lit, Kind: api.Int, N: 2}, {Form: api.Lit, Name: "a"}} {
		add("first "+told(e), false, func(v *api.Var) { v.Init = e })
	}
	edits(t, l)
}

func TestMayExpr(t *testing.T) {
	a := ref("a", 0)
	kids := func(n int) []api.Expr { return append([]api.Expr{}, []api.Expr{a, a, a, a, a, a, a, a, a, a}[:n]...) }
	good := []api.Expr{
		lit(0, 0), lit(api.MaxNumber, 0), lit(-api.MaxNumber, 0), {Form: api.Lit, Kind: api.Bool}, {Form: api.Lit, Kind: api.Bool, N: 1}, {Form: api.Lit, Kind: api.Time}, {Form: api.Lit, Kind: api.Time, N: 4294967295},
		{Form: api.Ref, Name: "a", Kids: []api.Expr{}}, {Form: api.Call, Name: "f", Kids: kids(1)}, {Form: api.Call, Name: "f", Kids: kids(8)}, {Form: api.Part, Name: "a", Part: "a"}, un(api.Neg, lit(5, 0)), un(api.Neg, lit(-5, 0)),
	}
	bad := []api.Expr{
		{}, {Form: -1}, {Form: 8}, {Form: math.MaxInt, Name: "a"}, {Form: api.Lit, N: api.MaxNumber + 1}, {Form: api.Lit, N: -api.MaxNumber - 1}, {Form: api.Lit, N: math.MinInt},
		{Form: api.Lit, Kind: api.Bool, N: 2}, {Form: api.Lit, Kind: api.Bool, N: -1}, {Form: api.Lit, Kind: api.Time, N: -1}, {Form: api.Lit, Kind: api.Time, N: 4294967296}, {Form: api.Lit, Kind: api.Int}, {Form: api.Lit, Kind: api.Dint}, {Form: api.Lit, Kind: api.Word}, {Form: api.Lit, Kind: 6}, {Form: api.Lit, Kind: -1},
		{Form: api.Item, Name: "a"}, {Form: api.Item, Name: "a", Kids: kids(2)}, {Form: api.Part, Name: "a"}, {Form: api.Part, Part: "a"}, {Form: api.Un, Op: api.Not}, {Form: api.Un, Op: api.Not, Kids: kids(2)}, {Form: api.Bin, Op: api.Add}, {Form: api.Bin, Op: api.Add, Kids: kids(1)}, {Form: api.Bin, Op: api.Add, Kids: kids(3)},
		{Form: api.Call, Name: "f"}, {Form: api.Call, Name: "f", Kids: kids(9)}, {Form: api.Call, Kids: kids(1)}, {Form: api.Call, Name: "f", Kids: []api.Expr{a, {}}}, {Form: api.Item, Name: "a", Kids: []api.Expr{{Form: 9}}}, bin(api.Add, a, api.Expr{}), bin(api.Add, api.Expr{}, a), un(api.Not, api.Expr{}),
	}
	for op := api.Op(-2); op <= 30; op++ {
		if op >= api.Add && op <= api.Ge {
			good = append(good, bin(op, a, a))
		} else {
			bad = append(bad, bin(op, a, a))
		}
		if op == api.Not || op == api.Neg {
			good = append(good, un(op, a))
		} else {
			bad = append(bad, un(op, a))
		}
	}
	bad = append(bad, spares(good)...)
	for may, list := range map[bool][]api.Expr{true: good, false: bad} {
		for _, e := range list {
			edits(t, []edit{
				{"set " + told(e), may, func(u *api.Unit) { *expr(u, set) = e }}, {"index " + told(e), may, func(u *api.Unit) { u.Body[item].E[1] = e }}, {"item " + told(e), may, func(u *api.Unit) { u.Body[item].E[0] = e }}, {"input " + told(e), may, func(u *api.Unit) { u.Body[invoke].Args[0].E = e }},
				{"if " + told(e), may, func(u *api.Unit) { u.Body[choice].Arms[0].E = e }}, {"case " + told(e), may, func(u *api.Unit) { u.Body[cases].E[0] = e }}, {"while " + told(e), may, func(u *api.Unit) { u.Body[while].E[0] = e }}, {"until " + told(e), may, func(u *api.Unit) { u.Body[repeat].E[0] = e }},
				{"kid " + told(e), may, func(u *api.Unit) { expr(u, inBin).Kids[1] = e }}, {"argument " + told(e), may, func(u *api.Unit) { expr(u, inCall).Kids[1] = e }},
			})
		}
	}
}

// spares: these expressions, each with something in a field that its form does not use.
func spares(l []api.Expr) []api.Expr {
	var out []api.Expr
	for _, e := range l {
		uses := map[api.Form]string{api.Lit: "kind n", api.Ref: "name", api.Item: "name kids", api.Part: "name part", api.Un: "op kids", api.Bin: "op kids", api.Call: "name kids"}[e.Form]
		for field, put := range map[string]func(e *api.Expr){
			"op": func(e *api.Expr) { e.Op = api.Add }, "kind": func(e *api.Expr) { e.Kind = api.Int }, "n": func(e *api.Expr) { e.N = 1 }, "name": func(e *api.Expr) { e.Name = "a" }, "part": func(e *api.Expr) { e.Part = "a" }, "kids": func(e *api.Expr) { e.Kids = []api.Expr{ref("a", 0)} },
		} {
			if !strings.Contains(uses, field) {
				spare := e
				put(&spare)
				out = append(out, spare)
			}
		}
	}
	return out
}

func TestMayStmt(t *testing.T) {
	e := ref("a", 0)
	fields := map[string]func(s *api.Stmt){
		"name": func(s *api.Stmt) { s.Name = "a" }, "item": func(s *api.Stmt) { s.Item = true }, "e": func(s *api.Stmt) { s.E = append(s.E[:len(s.E):len(s.E)], e) }, "args": func(s *api.Stmt) { s.Args = []api.Arg{{Name: "a", E: e}} },
		"arms": func(s *api.Stmt) { s.Arms = []api.Arm{{E: e}} }, "else": func(s *api.Stmt) { s.Else = []api.Stmt{{Verb: api.Exit}} }, "body": func(s *api.Stmt) { s.Body = []api.Stmt{{Verb: api.Exit}} },
		"from": func(s *api.Stmt) { s.From = 1 }, "to": func(s *api.Stmt) { s.To = 1 }, "by": func(s *api.Stmt) { s.By = 1 }, "times": func(s *api.Stmt) { s.Times = 1 },
	}
	uses := map[int]string{set: "name", item: "name item", invoke: "name args", choice: "arms else", cases: "arms_ else", loop: "name from to by body", while: "times body", repeat: "times body", exit: "", next: "", leave: ""}
	for i, used := range uses {
		for field, put := range fields {
			if !strings.Contains(" "+used+" ", " "+field+" ") {
				edits(t, []edit{{field, false, func(u *api.Unit) { put(&u.Body[i]) }}})
			}
		}
	}
	for one, put := range fields {
		for two, more := range fields {
			edits(t, []edit{{one + " and " + two, false, func(u *api.Unit) { put(&u.Body[exit]); more(&u.Body[exit]) }}})
		}
	}
	edits(t, []edit{
		{"verb 0", false, func(u *api.Unit) { u.Body[exit].Verb = 0 }}, {"verb 11", false, func(u *api.Unit) { u.Body[exit].Verb = 11 }}, {"verb -1", false, func(u *api.Unit) { u.Body[exit].Verb = -1 }}, {"last verb", false, func(u *api.Unit) { u.Body[inRef].Verb = 0 }},
		{"set nothing", false, func(u *api.Unit) { u.Body[set].E = nil }}, {"set item by one", false, func(u *api.Unit) { u.Body[item].E = u.Body[item].E[:1] }}, {"set two", false, func(u *api.Unit) { u.Body[item].Item = false }},
		{"case of nothing", false, func(u *api.Unit) { u.Body[cases].E = nil }}, {"while nothing", false, func(u *api.Unit) { u.Body[while].E = nil }}, {"until nothing", false, func(u *api.Unit) { u.Body[repeat].E = nil }},
		{"no arms", false, func(u *api.Unit) { u.Body[choice].Arms = nil }}, {"no arms of case", false, func(u *api.Unit) { u.Body[cases].Arms = nil }}, {"no else", true, func(u *api.Unit) { u.Body[choice].Else, u.Body[cases].Else = nil, nil }},
		{"if by labels", false, func(u *api.Unit) { u.Body[choice].Arms[0].Labels = [][2]int{{1, 1}} }}, {"if by labels alone", false, func(u *api.Unit) { u.Body[choice].Arms[0] = api.Arm{Labels: [][2]int{{1, 1}}} }},
		{"case by e", false, func(u *api.Unit) { u.Body[cases].Arms[0].E = e }}, {"case by e alone", false, func(u *api.Unit) { u.Body[cases].Arms[0] = api.Arm{E: e} }}, {"no labels", false, func(u *api.Unit) { u.Body[cases].Arms[0].Labels = nil }},
		{"second arm", false, func(u *api.Unit) { u.Body[choice].Arms = append(u.Body[choice].Arms, api.Arm{}) }}, {"bad in if", false, func(u *api.Unit) { u.Body[choice].Arms[0].Body[0].Verb = 0 }}, {"bad in else", false, func(u *api.Unit) { u.Body[choice].Else[0].Verb = 0 }},
		{"bad in case", false, func(u *api.Unit) { u.Body[cases].Arms[0].Body[0].Verb = 0 }}, {"bad in case's else", false, func(u *api.Unit) { u.Body[cases].Else[0].Verb = 0 }}, {"bad in for", false, func(u *api.Unit) { u.Body[loop].Body[0].Verb = 0 }}, {"bad in while", false, func(u *api.Unit) { u.Body[while].Body[0].Verb = 0 }}, {"bad in repeat", false, func(u *api.Unit) { u.Body[repeat].Body[0].Verb = 0 }},
	})
}

func TestMayArgs(t *testing.T) {
	a, out := api.Arg{Name: "a", E: ref("a", 0)}, api.Arg{Name: "a", Out: true, To: "b"}
	of := func(n int) []api.Arg {
		var l []api.Arg
		for i := range n {
			l = append(l, []api.Arg{a, out}[i%2])
		}
		return l
	}
	for _, x := range []struct {
		args []api.Arg
		may  bool
	}{
		{nil, true}, {[]api.Arg{}, true}, {of(1), true}, {of(16), true}, {of(17), false}, {[]api.Arg{{Name: "a", Out: true, To: "b", At: 9, E: api.Expr{At: 9}}}, true},
		{[]api.Arg{{Name: "a", To: "b"}}, false}, {[]api.Arg{{Name: "a", To: "b", E: a.E}}, false}, {[]api.Arg{{Name: "a", Out: true, To: "b", E: a.E}}, false}, {[]api.Arg{{Name: "a", Out: true, E: a.E}}, false}, {[]api.Arg{{Name: "a", Out: true}}, false}, {[]api.Arg{{Name: "a"}}, false}, {[]api.Arg{{E: a.E}}, false}, {[]api.Arg{a, {}}, false},
	} {
		edits(t, []edit{{"arguments", x.may, func(u *api.Unit) { u.Body[invoke].Args = x.args }}})
	}
}

func TestMayNumbers(t *testing.T) {
	for _, x := range []struct {
		from, to int
		may      bool
	}{
		{1, 10000, true}, {0, 9999, true}, {0, 10000, false}, {-10000, 0, false}, {5, 4, true}, {api.MaxNumber, -api.MaxNumber, true}, {-api.MaxNumber, api.MaxNumber, false}, {api.MaxNumber + 1, api.MaxNumber, false}, {-api.MaxNumber, -api.MaxNumber - 1, false}, {math.MaxInt, math.MinInt, false}, {math.MinInt, math.MaxInt, false}, {-api.MaxNumber - 1, -api.MaxNumber, false}, {api.MaxNumber, api.MaxNumber + 1, false},
	} {
		edits(t, []edit{{"from, to", x.may, func(u *api.Unit) { u.Body[loop].From, u.Body[loop].To = x.from, x.to }}})
	}
	for n, may := range map[int]bool{1: true, 2: true, 10000: true, 0: false, -1: false, 10001: false, math.MaxInt: false, math.MinInt: false} {
		edits(t, []edit{{"by", may, func(u *api.Unit) { u.Body[loop].By = n }}, {"while", may, func(u *api.Unit) { u.Body[while].Times = n }}, {"repeat", may, func(u *api.Unit) { u.Body[repeat].Times = n }}})
	}
	for l, may := range map[[2]int]bool{
		{0, 0}: true, {-1, 1}: true, {1, 0}: false, {-api.MaxNumber, api.MaxNumber}: true, {api.MaxNumber + 1, api.MaxNumber + 1}: false, {0, api.MaxNumber + 1}: false, {-api.MaxNumber - 1, 0}: false, {math.MinInt, math.MaxInt}: false,
	} {
		edits(t, []edit{{"label", may, func(u *api.Unit) { u.Body[cases].Arms[0].Labels[1] = l }}})
	}
}
