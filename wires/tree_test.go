package wires_test

import (
	"reflect"
	"strings"
	"testing"

	"plantwright/api"
	"plantwright/source"
	"plantwright/wires"
)

func TestExamples(t *testing.T) {
	s := "DIAGRAM d VAR a, b, c : INT; END_VAR c := a + b; PREV a := c; b := a + 1; END_DIAGRAM"
	want := "PROGRAM d\nVAR\n  a : INT;\n  b : INT;\n  c : INT;\nEND_VAR\n  b := a + 1;\n  c := a + b;\n  a := c;\nEND_PROGRAM\n"
	if got := source.Show(read(t, s)); got != want {
		t.Errorf("%q, not %q", got, want)
	}
	refuse(t, api.ErrLoop, "DIAGRAM d VAR a, b, c : INT; END_VAR ^a := b; b := a; END_DIAGRAM")
}

func TestUnit(t *testing.T) {
	for s, want := range map[string]api.Unit{
		"DIAGRAM d END_DIAGRAM":                       {Kind: api.Program, Name: "d"},
		" (* c *)\n// d\r\tdiagram D_1 end_Diagram//": {Kind: api.Program, Name: "d_1", At: 15},
		"DIAGRAM d VAR_EXTERNAL x : BOOL; END_VAR VAR RETAIN k : INT := -3; y : ARRAY[2..4] OF WORD; END_VAR VAR_INPUT i : Ton; END_VAR END_DIAGRAM": {Kind: api.Program, Name: "d", Vars: []api.Var{
			{Name: "x", Role: api.Extern, Kind: api.Bool, At: 23},
			{Name: "k", Role: api.Keep, Kind: api.Int, Init: api.Expr{Form: api.Lit, N: -3, At: 63}, At: 52},
			{Name: "y", Role: api.Keep, Kind: api.Word, Low: 2, Len: 3, At: 67},
			{Name: "i", Role: api.Input, Of: "ton", At: 110},
		}},
		"DIAGRAM d VAR a : INT; END_VAR PREV a := b; b := 7; END_DIAGRAM": {Kind: api.Program, Name: "d", Vars: []api.Var{
			{Name: "a", Role: api.Own, Kind: api.Int, At: 14},
		}, Body: []api.Stmt{
			{Verb: api.Set, At: 44, Name: "b", E: []api.Expr{{Form: api.Lit, N: 7, At: 49}}},
			{Verb: api.Set, At: 31, Name: "a", E: []api.Expr{{Form: api.Ref, Name: "b", At: 41}}},
		}},
		"DIAGRAM d t(); END_DIAGRAM": {Kind: api.Program, Name: "d", Body: []api.Stmt{{Verb: api.Invoke, At: 10, Name: "t"}}},
	} {
		if u := read(t, s); !reflect.DeepEqual(plain(u), plain(want)) {
			t.Errorf("%q: %+v, not %+v", s, u, want)
		}
	}
}

// Names need not be known, and nodes may have the diagram's own: that is looked at when the unit is checked.
func TestUnknownNames(t *testing.T) {
	accept(t, "DIAGRAM d d := v + w[x.y]; f(g := h, i => j); PREV k := l; END_DIAGRAM", "DIAGRAM d VAR a, a : INT; END_VAR a := 1; END_DIAGRAM")
}

func TestPlaces(t *testing.T) {
	becomes(t, "{1}a := {2}5;", "a@1 := 0:5@2;")
	becomes(t, "{1}a{2}:={3}-5;", "a@1 := 0:-5@3;")
	becomes(t, "{1}p := {2}NOT {3}q;", "p@1 := un21@2(q@3);")
	becomes(t, "{1}PREV {2}a := {3}b;", "a@1 := b@3;")
	becomes(t, "{1}prev\n(* c *) A := // d\n {3}B ;", "a@1 := b@3;")
	becomes(t, "{1}a := {2}b {3}+ {4}x[{5}c {6}* {7}d] {8}- {9}f({10}t.q, ({11}max({12}3)));",
		"a@1 := bin2@8(bin1@3(b@2, x@4[bin3@6(c@5, d@7)]), f@9(t.q@10, max@11(0:3@12)));")
	becomes(t, "{1}t();", "t@1();")
	becomes(t, "{1}t ( ) ;", "t@1();")
	becomes(t, "{1}t({2}in := {3}p, {4}pt := {5}T#5s, {6}q => r, {7}et => a);", "t@1(in@2 := p@3, pt@4 := 5:5000@5, q@6 => r, et@7 => a);")
	becomes(t, "{1}PREV {2}a := {3}b; {4}c := {5}d; {6}PREV {7}d := {8}d; {9}b := {10}1;", "c@4 := d@5; b@9 := 0:1@10; a@1 := b@3; d@6 := d@8;")
}

// Of a node without PREV the statement is the one that a program with the same text has; both begin with words of one length.
func TestStatementsAsOfPrograms(t *testing.T) {
	nodes := "a := b; t(in := p AND NOT q, pt := T#1m2s, q => r); c := max(1, -2) + -(3) * x[a - (4)] MOD sel(p, 16#ff, 2#1); d := t.et; u(); e := a = b OR c <> d XOR c <= 1 & c >= 2;"
	s := whole(nodes)
	u := read(t, s)
	l, f := source.Parse(strings.ReplaceAll(s, "DIAGRAM", "PROGRAM"))
	if f != (api.Fault{}) {
		t.Fatal(f)
	}
	if !reflect.DeepEqual(plain(u), plain(l[0])) {
		t.Errorf("%+v, not %+v", u, l[0])
	}
}

// Whatever stands between tokens, and however letters are written, comes to the same unit but for its places.
func TestBetweenTokens(t *testing.T) {
	want := listed(noPlaces(read(t, whole("PREV a:=b;b:=x[c]+max(1,d);t(in:=p,q=>r);d:=2;")).Body))
	for _, s := range []string{
		"PREV a := b ; b := x [ c ] + max ( 1 , d ) ; t ( in := p , q => r ) ; d := 2 ;",
		"prev\nA:=B;\tB\r:=X[C(* c *)]+MAX(1,// one\nD);T(IN:=P,Q=>R);D:=16#2;//end\n",
		"(* (* *)Prev(**)a:=b;b:=x[c]+Max(1,d);t(in:=p,q=>r);(*;*)d:=2;",
	} {
		if got := listed(noPlaces(read(t, whole(s)).Body)); got != want {
			t.Errorf("%q:\n%s\nnot\n%s", s, got, want)
		}
	}
}

func TestManyNodes(t *testing.T) {
	u := read(t, "DIAGRAM d "+nodes(api.MaxNodes)+" END_DIAGRAM")
	if len(u.Body) != api.MaxNodes || len(u.Vars) != 0 {
		t.Errorf("%d statements, %d variables", len(u.Body), len(u.Vars))
	}
}

// An expression may be as wide as a text, and a tree leans to the left then.
func TestWideExpression(t *testing.T) {
	s := "DIAGRAM d a := " + strings.Repeat("b+", 29900) + "c; c := 1; END_DIAGRAM"
	u := read(t, s)
	if len(u.Body) != 2 || u.Body[0].Name != "c" {
		t.Errorf("%d statements", len(u.Body))
	}
	refuse(t, api.ErrLoop, "DIAGRAM d ^a := "+strings.Repeat("b+", 29900)+"a; END_DIAGRAM", "DIAGRAM d ^a := a"+strings.Repeat("+b", 29900)+"; END_DIAGRAM")
}

func TestAnswerHangsOnTextAlone(t *testing.T) {
	s := whole("a := b + c + d + e; PREV p := q; b := c + d; c := e; d := e; t(in := r, q => q); e := 1;")
	first := read(t, s)
	for range 200 {
		wires.Read(whole("e := a; b := e; a := "))
		if again := read(t, s); !reflect.DeepEqual(first, again) {
			t.Fatalf("%v, then %v", first, again)
		}
	}
}
