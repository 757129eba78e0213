package ladder_test

import (
	"reflect"
	"strings"
	"testing"

	"plantwright/api"
	"plantwright/ladder"
	"plantwright/source"
)

func TestExample(t *testing.T) {
	u := read(t, "LADDER l VAR a, b, m : BOOL; END_VAR RUNG ([a], [m]) [/b] => m; END_LADDER")
	want := "PROGRAM l\nVAR\n  a : BOOL;\n  b : BOOL;\n  m : BOOL;\n  %0 : BOOL;\nEND_VAR\n  %0 := (a OR m) AND NOT b;\n  m := %0;\nEND_PROGRAM\n"
	if got := source.Show(u); got != want {
		t.Errorf("%s\nnot\n%s", got, want)
	}
	becomes(t, "LADDER l VAR a, b, m : BOOL; END_VAR {r}RUNG ({a}[a], {m}[m]) {b}[/b] => {c}m; END_LADDER",
		"%0@r := ((a@a OR@m m@m) AND@b un21@b(b@b)); m@c := %0@c;")
}

func TestUnit(t *testing.T) {
	for s, want := range map[string]api.Unit{
		"LADDER l END_LADDER":                       {Kind: api.Program, Name: "l"},
		" (* c *)\n// d\r\tladder L_1 end_Ladder//": {Kind: api.Program, Name: "l_1", At: 15},
		"LADDER l VAR_EXTERNAL x : BOOL; END_VAR VAR RETAIN k : INT := -3; y : ARRAY[2..4] OF WORD; END_VAR VAR_INPUT i : Ton; END_VAR END_LADDER": {Kind: api.Program, Name: "l", Vars: []api.Var{
			{Name: "x", Role: api.Extern, Kind: api.Bool, At: 22},
			{Name: "k", Role: api.Keep, Kind: api.Int, Init: api.Expr{Form: api.Lit, N: -3, At: 62}, At: 51},
			{Name: "y", Role: api.Keep, Kind: api.Word, Low: 2, Len: 3, At: 66},
			{Name: "i", Role: api.Input, Of: "ton", At: 109},
		}},
		"LADDER l VAR a : BOOL; END_VAR RUNG [a] => a; END_LADDER": {Kind: api.Program, Name: "l", Vars: []api.Var{
			{Name: "a", Role: api.Own, Kind: api.Bool, At: 13},
			{Name: "%0", Role: api.Own, Kind: api.Bool},
		}, Body: []api.Stmt{
			{Verb: api.Set, At: 31, Name: "%0", E: []api.Expr{{Form: api.Ref, Name: "a", At: 36}}},
			{Verb: api.Set, At: 43, Name: "a", E: []api.Expr{{Form: api.Ref, Name: "%0", At: 43}}},
		}},
	} {
		if u := read(t, s); !reflect.DeepEqual(plain(u), plain(want)) {
			t.Errorf("%q: %+v, not %+v", s, u, want)
		}
	}
}

// Names need not be known: that is looked at when the unit is checked.
func TestUnknownNames(t *testing.T) {
	accept(t, "LADDER l RUNG [x] [>y.z] => v, >w, /l, f(g, h := i + j, k => l); END_LADDER")
}

// Whatever stands between tokens, and however letters are written, comes to the same unit but for its places.
func TestBetweenTokens(t *testing.T) {
	want := listed(noPlaces(read(t, whole("RUNG([a],[/b])[>t.q]=>m,/n,+q,t(in,pt:=T#5s,q=>d);")).Body))
	for _, s := range []string{
		"RUNG ( [ a ] , [ / b ] ) [ > t . q ] => m , / n , + q , t ( in , pt := T#5s , q => d ) ;",
		"rung\n(\t[A]\r,[/(* not *)b])[>// edge\nT.Q]=>M,/N,+Q,T(IN,PT:=t#5S,Q=>D);// the end\n",
		"Rung (* (* *)([a](**),(*[x]*)[/b])[>t.q]=> m,/n,+q,t(in,pt:=T#5s,q=>d);",
	} {
		if got := listed(noPlaces(read(t, whole(s)).Body)); got != want {
			t.Errorf("%q:\n%s\nnot\n%s", s, got, want)
		}
	}
}

func TestContacts(t *testing.T) {
	for _, x := range []struct{ contact, before, is string }{
		{"[a]", "", "a@1"},
		{"[t.q]", "", "t.q@1"},
		{"[/a]", "", "un21@1(a@1)"},
		{"[/t.q]", "", "un21@1(t.q@1)"},
		{"[>a]", "%1@r(clk@r := a@r); ", "%1.q@1"},
		{"[<a]", "%1@r(clk@r := a@r); ", "%1.q@1"},
		{"[>t.q]", "%1@r(clk@r := t.q@r); ", "%1.q@1"},
		{"[<t.q]", "%1@r(clk@r := t.q@r); ", "%1.q@1"},
	} {
		for _, around := range []string{"", "(", "( (", "(((("} {
			s := around + "{1}" + x.contact + strings.Repeat(")", strings.Count(around, "("))
			becomes(t, whole("{r}RUNG "+s+" => {m}m;"), x.before+"%0@r := "+x.is+"; m@m := %0@m;")
		}
	}
}

// Steps are joined by And, ways by Or, two at a time from left to right; each stands where its second part begins.
func TestWays(t *testing.T) {
	for marked, want := range map[string]string{
		"{1}[a] {2}[b]":                            "(a@1 AND@2 b@2)",
		"{1}[a] {2}[b] {3}[c] {4}[d]":              "(((a@1 AND@2 b@2) AND@3 c@3) AND@4 d@4)",
		"({1}[a], {2}[b])":                         "(a@1 OR@2 b@2)",
		"({1}[a], {2}[b], {3}[c], {4}[d])":         "(((a@1 OR@2 b@2) OR@3 c@3) OR@4 d@4)",
		"{1}[a] {2}({3}[b], {4}[c])":               "(a@1 AND@2 (b@3 OR@4 c@4))",
		"({1}[a], {2}[b]) {3}[c]":                  "((a@1 OR@2 b@2) AND@3 c@3)",
		"({1}[a] {2}[b], {3}[c] {4}[d])":           "((a@1 AND@2 b@2) OR@3 (c@3 AND@4 d@4))",
		"({1}[a], {2}({3}[b], {4}[c]))":            "(a@1 OR@2 (b@3 OR@4 c@4))",
		"(({1}[a], {2}[b]), {3}[c])":               "((a@1 OR@2 b@2) OR@3 c@3)",
		"{1}[a] {2}({3}[b] {4}[c])":                "(a@1 AND@2 (b@3 AND@4 c@4))",
		"({1}[a], {2}[b]) {3}({4}[c], {5}[/d])":    "((a@1 OR@2 b@2) AND@3 (c@4 OR@5 un21@5(d@5)))",
		"({1}[a], {2}({3}[b], {4}[c]) {5}[d])":     "(a@1 OR@2 ((b@3 OR@4 c@4) AND@5 d@5))",
		"{1}[a] {2}({3}(({4}[b] {5}[c])), {6}[d])": "(a@1 AND@2 ((b@4 AND@5 c@5) OR@6 d@6))",
	} {
		becomes(t, whole("{r}RUNG "+marked+" => {m}m;"), "%0@r := "+want+"; m@m := %0@m;")
	}
}

func TestCoils(t *testing.T) {
	for marked, want := range map[string]string{
		"{1}m":        "m@1 := %0@1;",
		"{1}/m":       "m@1 := un21@1(%0@1);",
		"{1}+m":       "IF@1 %0@1 THEN m@1 := 1:1@1; END_IF;",
		"{1}-m":       "IF@1 %0@1 THEN m@1 := 1:0@1; END_IF;",
		"{1}>m":       "%1@1(clk@1 := %0@1); m@1 := %1.q@1;",
		"{1}> m":      "%1@1(clk@1 := %0@1); m@1 := %1.q@1;",
		"{1}t({2}in)": "t@1(in@2 := %0@1);",
		"{1}t ( {2}in, {3}pt := {4}T#5s, {5}q => m)":    "t@1(in@2 := %0@1, pt@3 := 5:5000@4, q@5 => m);",
		"{1}t({2}in, {3}q => m, {4}et => n)":            "t@1(in@2 := %0@1, q@3 => m, et@4 => n);",
		"{1}u({2}cu, {3}pv := {4}a {5}+ {6}f(({7}-5)))": "u@1(cu@2 := %0@1, pv@3 := (a@4 +@5 f@6(0:-5@7)));",
		"{1}m, {2}/n, {3}+a, {4}-b, {5}t({6}in), {7}m":  "m@1 := %0@1; n@2 := un21@2(%0@2); IF@3 %0@3 THEN a@3 := 1:1@3; END_IF; IF@4 %0@4 THEN b@4 := 1:0@4; END_IF; t@5(in@6 := %0@5); m@7 := %0@7;",
	} {
		becomes(t, whole("{r}RUNG {a}[a] => "+marked+";"), "%0@r := a@a; "+want)
	}
}

// Instances are numbered in the order of the text, over all rungs; the calls of contacts stand ahead of their rung, those of coils where the coil does.
func TestEdges(t *testing.T) {
	s := whole("{r}RUNG {1}[>a] {2}({b}[<b], {3}[>t.q]) => {4}>m, {5}n, {6}>q; {s}RUNG {7}[c] => {8}>d; {u}RUNG {9}[<d] => {10}a;")
	becomes(t, s, "%1@r(clk@r := a@r); %2@r(clk@r := b@r); %3@r(clk@r := t.q@r); %0@r := (%1.q@1 AND@2 (%2.q@b OR@3 %3.q@3)); "+
		"%4@4(clk@4 := %0@4); m@4 := %4.q@4; n@5 := %0@5; %5@6(clk@6 := %0@6); q@6 := %5.q@6; "+
		"%0@s := c@7; %6@8(clk@8 := %0@8); d@8 := %6.q@8; "+
		"%7@u(clk@u := d@u); %0@u := %7.q@9; a@10 := %0@10;")
	text, _ := unmarked(s)
	u := read(t, text)
	hidden := []api.Var{{Name: "%0", Role: api.Own, Kind: api.Bool}}
	for i, of := range strings.Fields("r_trig f_trig r_trig r_trig r_trig r_trig f_trig") {
		hidden = append(hidden, api.Var{Name: "%" + string(rune('1'+i)), Role: api.Own, Of: of})
	}
	shown := len(u.Vars) - len(hidden)
	if got := u.Vars[shown:]; !reflect.DeepEqual(got, hidden) {
		t.Errorf("%v, not %v", got, hidden)
	}
	if vars, _, _ := source.Heads(heads, 0); len(vars) != shown {
		t.Errorf("%d variables of the heads, not %d", shown, len(vars))
	}
}

// There is one variable for the power, however many rungs there are.
func TestManyRungs(t *testing.T) {
	u := read(t, "LADDER l "+same(api.MaxRungs, " ", "RUNG [a] => m;")+" END_LADDER")
	if len(u.Vars) != 1 || u.Vars[0].Name != "%0" || len(u.Body) != 2*api.MaxRungs {
		t.Errorf("%v, %d statements", u.Vars, len(u.Body))
	}
	// A number of three digits, and no number that was given before.
	u = read(t, "LADDER l "+same(3, " ", "RUNG "+same(50, "", "[>a]")+" => m;")+" END_LADDER")
	seen := map[string]bool{}
	for _, v := range u.Vars {
		seen[v.Name] = true
	}
	if len(seen) != 151 || u.Vars[150].Name != "%150" {
		t.Errorf("%d names, the last one is %s", len(seen), u.Vars[len(u.Vars)-1].Name)
	}
}

func TestAnswerHangsOnTextAlone(t *testing.T) {
	s := whole("RUNG [>a] => >m;")
	first := read(t, s)
	ladder.Read(whole("RUNG [>a] [>b] [>"))
	if second := read(t, s); !reflect.DeepEqual(first, second) {
		t.Errorf("%v, then %v", first, second)
	}
}
