package source_test

import (
	"fmt"
	"reflect"
	"strings"
	"testing"

	"plantwright/api"
	"plantwright/source"
)

func TestHeads(t *testing.T) {
	for _, x := range []struct {
		text  string
		at    int
		names string
		end   int
	}{
		{"", 0, "", 0}, {"  ", 0, "", 2}, {"  ", 2, "", 2}, {" (* c *) // d", 0, "", 13}, {" a := 1;", 0, "", 1}, {"END_VAR", 0, "", 0}, {"RETAIN", 0, "", 0}, {") x", 0, "", 0},
		{"VAR END_VAR", 0, "", 11}, {"VAR a, b : INT; c : ton; END_VAR  x %", 0, "a b c", 34},
		{"zVAR a : INT; END_VAR END", 1, "a", 22}, {"zVAR a : INT; END_VAR END", 0, "", 0}, {"x; VAR a : INT; END_VAR (* c *) VAR_INPUT b : BOOL; END_VAR RUNG", 2, "a b", 60}, {"VAR a : INT; END_VAR", 20, "", 20},
		{"(* VAR a : INT; END_VAR *)", 3, "a", 24}, {"VAR a : INT; END_VARVAR", 21, "", 21}, {"VAR a : INT; END_VAR 4294967295 %", 0, "a", 21}, {"VAR a : INT; END_VAR max %", 0, "a", 21},
	} {
		vars, end, f := source.Heads(x.text, x.at)
		var names []string
		for _, v := range vars {
			names = append(names, v.Name)
		}
		if strings.Join(names, " ") != x.names || end != x.end || f != (api.Fault{}) {
			t.Errorf("Heads(%q, %d): %v, %d, %v, not %v, %d", x.text, x.at, names, end, f, x.names, x.end)
		}
	}
}

// partFaults: the text, with a ^ ahead of the token that is wrong, and where to begin.
type partFault struct {
	text string
	at   int
	code api.Errno
}

func TestHeadsFaults(t *testing.T) {
	full := many(api.MaxVars, ", ", func(i int) string { return fmt.Sprintf("v%d", i) })
	for _, x := range []partFault{
		{"^%", 0, api.ErrText}, {" ^(* x", 0, api.ErrText}, {"VAR END_VAR ^1z", 0, api.ErrText}, {"VAR END_VAR ^" + strings.Repeat("x", 25), 0, api.ErrLong}, {"VAR END_VAR ^4294967296", 0, api.ErrRange}, {"VAR END_VAR ^T#1", 0, api.ErrText},
		{"VAR^", 0, api.ErrText}, {"VAR a : INT; ^x := 1", 0, api.ErrText}, {"xx VAR a : ^", 2, api.ErrText}, {"VAR a : ARRAY[2..^1] OF INT; END_VAR", 0, api.ErrRange}, {"VAR " + full + ", ^v : INT; END_VAR", 0, api.ErrSize},
		{"VAR " + full + " : INT; END_VAR VAR_INPUT ^v : INT; END_VAR", 0, api.ErrSize}, {"PROGRAM p VAR ^PROGRAM", 9, api.ErrText},
	} {
		s, at := wrong{x.text, x.code}.parts()
		if x.text == "VAR a : INT; ^x := 1" {
			at += 2 // a name may stand there, not what is behind it
		}
		vars, end, f := source.Heads(s, x.at)
		if len(vars) != 0 || end != 0 || f != (api.Fault{Code: x.code, At: at}) {
			t.Errorf("Heads(%q, %d): %v, %d, %v", s, x.at, vars, end, f)
		}
	}
}

func TestExpression(t *testing.T) {
	for _, x := range []struct {
		text string
		at   int
		want string
		end  int
	}{
		{"a", 0, "a@0", 1}, {" a ", 0, "a@1", 3}, {"ab", 1, "b@1", 2}, {"a + b ; %", 0, "bin1@2(a@0 b@4)", 6}, {"a := b", 0, "a@0", 2}, {"a b", 0, "a@0", 2}, {"a) %", 0, "a@0", 1}, {"a THEN", 0, "a@0", 2},
		{"f(a)(b)", 0, "f@0(a@2)", 4}, {"x := a AND b;", 4, "bin6@7(a@5 b@11)", 12}, {"a MAX (b)", 0, "a@0", 2}, {"a max(b)", 0, "a@0", 2}, {"-5 5", 0, "0:-5@0", 3}, {"(a) (b)", 0, "a@1", 4}, {"a (* c *) // d", 0, "a@0", 14},
		{"1..2", 0, "0:1@0", 1}, {"1.2", 0, "0:1@0", 1}, {"a.b.c", 0, "a.b@0", 3},
	} {
		e, end, f := source.Expression(x.text, x.at)
		if told(e) != x.want || end != x.end || f != (api.Fault{}) {
			t.Errorf("Expression(%q, %d): %s, %d, %v, not %s, %d", x.text, x.at, told(e), end, f, x.want, x.end)
		}
	}
}

func TestExpressionPartFaults(t *testing.T) {
	deepest := api.MaxDeep - 2
	open := strings.Repeat("(", deepest)
	if _, end, f := source.Expression(open+"a"+strings.Repeat(")", deepest), 0); f != (api.Fault{}) || end != 2*deepest+1 {
		t.Errorf("the deepest: %d, %v", end, f)
	}
	for _, x := range []partFault{
		{"^", 0, api.ErrText}, {"  ^", 1, api.ErrText}, {"^;", 0, api.ErrText}, {"^max", 0, api.ErrText}, {"^max %", 0, api.ErrText}, {"a ^%", 0, api.ErrText}, {"a^#", 0, api.ErrText}, {"a ^(* no end", 0, api.ErrText}, {"a + ^", 0, api.ErrText}, {"T#^5s", 2, api.ErrText},
		{"a ^1z", 0, api.ErrText}, {"a ^99999999999", 0, api.ErrRange}, {"a ^" + strings.Repeat("x", 25), 0, api.ErrLong}, {"a ^T#1h1h", 0, api.ErrText}, {"(a^ ", 0, api.ErrText}, {"f(1, 2, 3, 4, 5, 6, 7, 8, ^9)", 0, api.ErrSize},
		{open + "(^a))", 0, api.ErrDeep}, {open + "NOT ^a", 0, api.ErrDeep}, {"PROGRAM p END_PROGRAM PROGRAM q x := ^; END_PROGRAM", 36, api.ErrText},
	} {
		s, at := wrong{x.text, x.code}.parts()
		if x.text == "(a^ " {
			at++ // the end of the text
		}
		e, end, f := source.Expression(s, x.at)
		if !reflect.DeepEqual(e, api.Expr{}) || end != 0 || f != (api.Fault{Code: x.code, At: at}) {
			t.Errorf("Expression(%q, %d): %s, %d, %v", s, x.at, told(e), end, f)
		}
	}
}

func TestPlaces(t *testing.T) {
	full := "VAR END_VAR" + strings.Repeat(" ", api.MaxText-len("VAR END_VAR"))
	for _, x := range []struct {
		text string
		at   int
		want api.Fault
	}{
		{"a", -1, api.Fault{Code: api.ErrRange}}, {"a", 2, api.Fault{Code: api.ErrRange}}, {"", 1, api.Fault{Code: api.ErrRange}}, {"%", -1 << 63, api.Fault{Code: api.ErrRange}}, {"%", 1<<63 - 1, api.Fault{Code: api.ErrRange}},
		{full + " ", 0, api.Fault{Code: api.ErrSize}}, {full + " ", -1, api.Fault{Code: api.ErrSize}}, {full + " ", api.MaxText + 2, api.Fault{Code: api.ErrSize}}, {full + " ", api.MaxText + 1, api.Fault{Code: api.ErrSize}}, {full, api.MaxText + 1, api.Fault{Code: api.ErrRange}},
	} {
		if vars, end, f := source.Heads(x.text, x.at); len(vars) != 0 || end != 0 || f != x.want {
			t.Errorf("Heads of %d bytes at %d: %v, %d, %v", len(x.text), x.at, vars, end, f)
		}
		if e, end, f := source.Expression(x.text, x.at); !reflect.DeepEqual(e, api.Expr{}) || end != 0 || f != x.want {
			t.Errorf("Expression of %d bytes at %d: %v, %d, %v", len(x.text), x.at, e, end, f)
		}
	}
	if _, end, f := source.Heads(full, 0); end != api.MaxText || f != (api.Fault{}) {
		t.Errorf("MaxText bytes: %d, %v", end, f)
	}
}
