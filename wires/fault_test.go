package wires_test

import (
	"fmt"
	"strings"
	"testing"

	"plantwright/api"
	"plantwright/wires"
)

func TestTextFaults(t *testing.T) {
	refuse(t, api.ErrText,
		"^", " \n^", "// DIAGRAM^", "^d", "^PROGRAM d END_PROGRAM", "^LADDER d END_LADDER", "^a := 1;", "^END_DIAGRAM", "^PREV a := b;", "DIAGRAM^", "DIAGRAM ^;", "DIAGRAM ^END_DIAGRAM", "DIAGRAM ^prev END_DIAGRAM", "DIAGRAM ^max END_DIAGRAM", "DIAGRAM ^1 END_DIAGRAM", "DIAGRAM ^DIAGRAM",
		"DIAGRAM d^", "DIAGRAM d d ^END_DIAGRAM", "DIAGRAM d ^: INT END_DIAGRAM", "DIAGRAM d ^; END_DIAGRAM", "DIAGRAM d ^END_PROGRAM", "DIAGRAM d ^END_LADDER", "DIAGRAM d ^DIAGRAM e END_DIAGRAM END_DIAGRAM", "DIAGRAM d ^RUNG [a] => b; END_DIAGRAM", "DIAGRAM d^.e END_DIAGRAM", "DIAGRAM d ^(in := 1); END_DIAGRAM", "DIAGRAM d ^:= 1; END_DIAGRAM",
		"DIAGRAM d END_DIAGRAM ^x", "DIAGRAM d END_DIAGRAM^;", "DIAGRAM d END_DIAGRAM ^DIAGRAM e END_DIAGRAM", "DIAGRAM d END_DIAGRAM ^END_DIAGRAM", "DIAGRAM d END_DIAGRAM ^a := 1;", "DIAGRAM d a := 1; END_DIAGRAM ^PREV a := b;", "DIAGRAM d a := 1; ^END_PROGRAM",
		"DIAGRAM d a := 1;^", "DIAGRAM d a := 1; ^VAR b : BOOL; END_VAR END_DIAGRAM", "DIAGRAM d a := 1;^; END_DIAGRAM", "DIAGRAM d a := 1; ^[b]", "DIAGRAM d PREV a := b;^",
	)
}

func TestHeadFaults(t *testing.T) {
	names := func(n int) string { return many(n, ", ", func(i int) string { return fmt.Sprint("v", i) }) }
	refuse(t, api.ErrText, "DIAGRAM d VAR a : BOOL ^END_VAR END_DIAGRAM", "DIAGRAM d VAR ^PREV", "DIAGRAM d VAR a : ^; END_VAR a := 1;", "DIAGRAM d ^RETAIN a : INT; END_VAR", "DIAGRAM d VAR_INPUT ^RETAIN", "DIAGRAM d VAR END_VAR^", "DIAGRAM d VAR END_VAR ^END_VAR", "DIAGRAM d VAR ^%0 : BOOL; END_VAR END_DIAGRAM", "DIAGRAM d VAR a : INT := ^b; END_VAR END_DIAGRAM")
	refuse(t, api.ErrRange, "DIAGRAM d VAR a : ARRAY[2..^1] OF BOOL; END_VAR END_DIAGRAM", "DIAGRAM d VAR a : INT := ^4294967296; END_VAR END_DIAGRAM", "DIAGRAM d VAR a : ARRAY[1..^1001] OF BOOL; END_VAR END_DIAGRAM")
	accept(t, "DIAGRAM d VAR "+names(api.MaxVars)+" : BOOL; END_VAR v0 := v1; END_DIAGRAM")
	refuse(t, api.ErrSize, "DIAGRAM d VAR "+names(api.MaxVars)+", ^v : BOOL; END_VAR END_DIAGRAM", "DIAGRAM d VAR "+names(150)+" : BOOL; END_VAR VAR_EXTERNAL "+names(50)+" : BOOL; ^v %")
}

func TestNodeFaults(t *testing.T) {
	refuseIn(t, api.ErrText,
		"a ^END_DIAGRAM", "a^;", "a ^= 1;", "a ^=> b;", "a ^b;", "a^[1] := b;", "a^.b := 1;", "a^, b := 1;", "a ^: INT;", "a ^+ 1;", "a^) ;", "^(a) := 1;", "^1 := a;", "^-a := 1;", "^NOT a := 1;", "^TRUE := 1;", "^max := 1;", "^max(in := 1);", "^int := 1;", "^T#1s := 1;", "^T#1s;",
		"a :=^;", "a := ^:= 1;", "a := 1 ^b := 2;", "a := 1^, 2;", "a := 1 ^END_DIAGRAM", "a := b ^c;", "a := b^) ;", "a := (b^;", "a := (^);", "a := b +^;", "a := b ^:= c;", "a := ^max;", "a := f(^);", "a := f(b^;", "a := f(b,^);", "a := x[^];", "a := x[b^;", "a := x[b^, c];", "a := b.^;", "a := b.^1;", "a := b^..c;", "a := b.c^.d;", "a := ^PREV b;", "a := ^END_DIAGRAM", "a := NOT^;", "a := - ^* b;", "a := ^[b];", "a := f(c ^:= b);", "a := b ^=> c;", "a := ^IF;", "a := b ^THEN;",
		"^IF a THEN b := 1; END_IF;", "^CASE a OF", "^FOR a := 1 TO 2 DO END_FOR;", "^WHILE a MAX 1 DO END_WHILE;", "^REPEAT", "^EXIT;", "^CONTINUE;", "^RETURN;", "^ELSE", "^RUNG [a] => b;", "a := 1; ^VAR a : INT; END_VAR", "^:= a;", "^; a := 1;",
	)
	refuseIn(t, api.ErrText, "a := 1 ^MAX 2;", "a := b ^MAX (1);")
}

func TestPrevFaults(t *testing.T) {
	refuseIn(t, api.ErrText,
		"PREV ^END_DIAGRAM", "PREV^;", "PREV ^PREV a := b;", "PREV ^:= b;", "PREV ^1 := b;", "PREV ^max := b;", "PREV a^;", "PREV a ^b;", "PREV a ^= b;", "PREV a ^=> b;", "PREV a^(in := b);", "PREV a^();", "PREV a^[1] := b;", "PREV a^.b := c;", "PREV ^(a) := b;",
		"PREV a :=^;", "PREV a := ^1;", "PREV a := ^-b;", "PREV a := ^NOT b;", "PREV a := ^(b);", "PREV a := ^TRUE;", "PREV a := ^T#1s;", "PREV a := ^max;", "PREV a := ^max(b);", "PREV a := b ^+ c;", "PREV a := b^[1];", "PREV a := b^.q;", "PREV a := b^(c);", "PREV a := b^, c;", "PREV a := b ^END_DIAGRAM", "PREV a := b ^c := d;", "PREV a := ^PREV b;", "PREV a := b ^:= c;",
	)
}

func TestArgFaults(t *testing.T) {
	refuseIn(t, api.ErrText,
		"t(^;", "t(^, in := 1);", "t(^1);", "t(^max := 1);", "t(in^);", "t(in^, pt := 1);", "t(in ^b);", "t(in^.q := 1);", "t(in^[1] := 1);", "t(in ^= 1);", "t(in := 1,^);", "t(in := 1)^(in := 1);", "t(in := 1) ^t();", "t(in := 1^] ;", "t(in := 1^;", "t() ^END_DIAGRAM", "t() ^b := 1;", "t() ^:= 1;", "t()^.q;", "t(^PREV a := b);", "t(in := ^PREV a);",
		"t(in :=^);", "t(in := 1 ^2);", "t(in := a +^);", "t(in := (a^, b));", "t(in := ^max);", "t(in := f(^));", "t(in := 1)^);", "t(in := q ^=> a);", "t(in := a ^:= b);",
		"t(q =>^);", "t(q => ^1);", "t(q => a^.b);", "t(q => a^[1]);", "t(q => a ^+ b);", "t(q => ^-a);", "t(q => ^max);", "t(q => ^(a));", "t(^-q => a);", "t(q => a^;", "t(q => a ^:= 1);",
	)
	refuseIn(t, api.ErrSize, "t(in := f(1, 2, 3, 4, 5, 6, 7, 8, ^9));", "t(in := max(1, 2, 3, 4, 5, 6, 7, 8, ^-9 %", "a := f(1, 2, 3, 4, 5, 6, 7, 8, ^b", "a := x[f(1, 2, 3, 4, 5, 6, 7, 8, ^(b %")
	accept(t, whole("a := f(1, 2, 3, 4, 5, 6, 7, 8);"))
}

// A token's own fault is told wherever it stands, ahead of what the grammar says of it.
func TestTokenFaults(t *testing.T) {
	long := strings.Repeat("x", api.MaxName+1)
	for text, code := range map[string]api.Errno{"%": api.ErrText, "#": api.ErrText, "(* c": api.ErrText, "1z": api.ErrText, "T#1": api.ErrText, long: api.ErrLong, "4294967296": api.ErrRange, "t#50d": api.ErrRange, strings.Repeat("0", 41): api.ErrLong} {
		refuse(t, code, "^"+text, "DIAGRAM ^"+text, "DIAGRAM d ^"+text, "DIAGRAM d END_DIAGRAM ^"+text, "DIAGRAM d VAR ^"+text, "DIAGRAM d VAR END_VAR ^"+text)
		refuseIn(t, code,
			"a ^"+text, "a := ^"+text, "a := b ^"+text, "a := b + ^"+text, "a := (^"+text, "a := f( ^"+text, "a := f(b, ^"+text, "a := f(b) ^"+text, "a := x[ ^"+text, "a := x[b ^"+text, "a := b. ^"+text, "a := 1; ^"+text,
			"PREV ^"+text, "PREV a ^"+text, "PREV a := ^"+text, "PREV a := b ^"+text, "PREV a := b; ^"+text,
			"t( ^"+text, "t( a ^"+text, "t(a := ^"+text, "t(a := b ^"+text, "t(a := b, ^"+text, "t(a => ^"+text, "t(a => b ^"+text, "t(a => b, ^"+text, "t() ^"+text, "t(); ^"+text,
		)
	}
	accept(t, "DIAGRAM "+long[1:]+" "+long[1:]+" := "+long[2:]+"; END_DIAGRAM")
}

func TestTextSize(t *testing.T) {
	s := "DIAGRAM d a := 1; END_DIAGRAM"
	s += strings.Repeat(" ", api.MaxText-len(s))
	accept(t, s)
	for _, x := range []string{s + " ", " " + s, "%" + s, strings.Repeat("%", api.MaxText+1), strings.Repeat("(", 1000000)} {
		if u, f := wires.Read(x); f != (api.Fault{Code: api.ErrSize}) || !isNothing(u) {
			t.Errorf("%d bytes: %v, %v", len(x), f, u)
		}
	}
	refuse(t, api.ErrText, "^"+strings.Repeat("%", api.MaxText))
}

func TestNodeSizes(t *testing.T) {
	full := "DIAGRAM d " + nodes(api.MaxNodes)
	accept(t, full+" END_DIAGRAM", "DIAGRAM d "+nodes(api.MaxNodes-1)+" a := 1; END_DIAGRAM", "DIAGRAM d "+nodes(api.MaxNodes-1)+" PREV a := a; END_DIAGRAM")
	refuse(t, api.ErrSize, full+" ^a := 1; END_DIAGRAM", full+" ^PREV a := a; END_DIAGRAM", full+" ^t(); END_DIAGRAM", full+" ^a", full+" ^PREV", full+" ^a %", full+" ^PREV %", full+" ^PREV PREV", full+" ^a b", full+" ^v0 := 1;", full+" ^a := 1; b := 2; END_DIAGRAM")
	refuse(t, api.ErrText, full+"^", full+" ^%", full+" ^; END_DIAGRAM", full+" ^max := 1;", full+" ^1 := 2;", full+" END_DIAGRAM ^a := 1;", full+" END_DIAGRAM ^PREV", full+" ^IF a THEN", full+" ^END_PROGRAM")
	refuse(t, api.ErrLong, full+" ^"+strings.Repeat("a", 25)+" := 1;")
	for _, kind := range []string{"v%d := 1;", "PREV v%d := a;", "v%d();"} {
		all := "DIAGRAM d " + many(api.MaxNodes, "", func(i int) string { return fmt.Sprintf(kind, i) })
		accept(t, all+" END_DIAGRAM")
		refuse(t, api.ErrSize, all+" ^a := 1; END_DIAGRAM", all+"^PREV a := a; END_DIAGRAM")
	}
}

func TestArgSizes(t *testing.T) {
	args := func(instance string) string {
		return instance + "(" + many(2*api.MaxArgs, ", ", func(i int) string {
			return []string{"a := 1", fmt.Sprintf("b => %s_%d", instance, i)}[i%2]
		})
	}
	accept(t, whole(args("t")+");"), whole(args("t")+"); "+args("u")+");"), whole("t("+many(2*api.MaxArgs, ", ", func(int) string { return "a := f(1, 2, 3, 4, 5, 6, 7, 8)" })+");"))
	for _, s := range []string{args("t"), args("t") + "); v(); " + args("u")} {
		refuseIn(t, api.ErrSize, s+", ^a := 1);", s+", ^a => b);", s+", ^a %", s+", ^a);", s+", ^a ;", s+", ^a := 1, a := 2);")
		refuseIn(t, api.ErrText, s+", ^1);", s+",^);", s+", ^%", s+"^;", s+", ^max := 1);", s+", ^PREV")
		refuseIn(t, api.ErrLong, s+", ^"+strings.Repeat("a", 25))
	}
}

// An expression is as deep as one of a statement of a unit's list, that of an arg as well.
func TestDepth(t *testing.T) {
	deepest := api.MaxDeep - 2
	open, shut := strings.Repeat("(", deepest), strings.Repeat(")", deepest)
	for _, s := range []string{"a := ", "t(in := 1, pt := "} {
		end := strings.Repeat(")", strings.Count(s, "(")) + ";"
		accept(t, whole(s+open+"1"+shut+end), whole(s+strings.Repeat("NOT ", deepest)+"b"+end), whole(s+strings.Repeat("x[", deepest)+"b"+strings.Repeat("]", deepest)+end), whole(s+open+"-1"+shut+" + "+open+"b * c"+shut+end))
		refuseIn(t, api.ErrDeep, s+open+"(^1)"+shut+end, s+open+"NOT ^a"+shut+end, s+open+"- ^a"+shut+end, s+open+"f(^1", s+open+"x[ ^1 %", s+"1 + "+open+"(^b")
		refuseIn(t, api.ErrText, s+open+"(^)", s+open+"(^%")
	}
}

// Of several faults the first token's is told.
func TestFirstFault(t *testing.T) {
	full := nodes(api.MaxNodes)
	refuse(t, api.ErrText, "DIAGRAM ^% "+full, "DIAGRAM d "+full+" ^; a := 1;", "DIAGRAM d "+full[:len(full)-1]+" ^a := 1;")
	refuse(t, api.ErrSize, "DIAGRAM d "+full+" ^a := ; %", "DIAGRAM d a(b := f(1, 2, 3, 4, 5, 6, 7, 8, ^9, %")
	refuseIn(t, api.ErrText, "a ^; %", "t(in := ^, %)", "a := b ^c, "+strings.Repeat("x", 25), "PREV a := b ^+ 4294967296;")
	refuseIn(t, api.ErrRange, "a := ^4294967296 b;")
}
