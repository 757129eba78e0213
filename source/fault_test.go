package source_test

import (
	"fmt"
	"strings"
	"testing"

	"plantwright/api"
	"plantwright/source"
)

func TestUnitFaults(t *testing.T) {
	for _, s := range []string{
		"^x", "^VAR END_VAR", "PROGRAM^", "PROGRAM ^;", "PROGRAM p^", "PROGRAM p ^END_FUNCTION", "PROGRAM p ^: INT END_PROGRAM", "PROGRAM p ^PROGRAM",
		"FUNCTION f ^END_FUNCTION", "FUNCTION f : ^ton END_FUNCTION", "FUNCTION f : INT ^END_FUNCTION_BLOCK", "FUNCTION f : ^ARRAY[1..2] OF INT END_FUNCTION",
		"FUNCTION_BLOCK b ^: INT END_FUNCTION_BLOCK", "FUNCTION_BLOCK b ^END_FUNCTION", "FUNCTION_BLOCK b ^END_PROGRAM", "PROGRAM p a := b +^; END_PROGRAM",
	} {
		refuse(t, 0, []wrong{{s, api.ErrText}})
		refuse(t, 1, []wrong{{"PROGRAM q END_PROGRAM " + s, api.ErrText}})
		refuse(t, 2, []wrong{{"PROGRAM q END_PROGRAM FUNCTION f : INT f := 1; END_FUNCTION " + s, api.ErrText}})
	}
	refuse(t, 1, []wrong{{"PROGRAM p END_PROGRAM^;", api.ErrText}, {"PROGRAM p END_PROGRAM ^END_PROGRAM", api.ErrText}})
}

func TestHeadFaults(t *testing.T) {
	misfits(t,
		"VAR a ^:= 1; END_VAR", "^RETAIN a : INT; END_VAR", "VAR_INPUT ^RETAIN a : INT; END_VAR", "VAR RETAIN ^RETAIN END_VAR", "VAR a ^INT; END_VAR", "VAR a, ^: INT; END_VAR",
		"VAR a : ^; END_VAR", "VAR a : INT ^b : INT; END_VAR", "VAR a : INT := ^b; END_VAR", "VAR a : INT := ^; END_VAR", "VAR a : INT := 1 ^+ 1; END_VAR", "VAR a : INT := -^TRUE; END_VAR",
		"VAR a : INT := -^T#1s; END_VAR", "VAR a : INT := ^(1); END_VAR", "VAR a : INT ^= 1; END_VAR", "VAR a : INT := -^-1; END_VAR", "VAR a : INT := ^NOT TRUE; END_VAR",
		"VAR a : ARRAY ^1..2 OF INT; END_VAR", "VAR a : ARRAY[^a..2] OF INT; END_VAR", "VAR a : ARRAY[1^, 2] OF INT; END_VAR", "VAR a : ARRAY[1..^T#1s] OF INT; END_VAR",
		"VAR a : ARRAY[1..2^) OF INT; END_VAR", "VAR a : ARRAY[1..2] ^INT; END_VAR", "VAR a : ARRAY[1..2] OF ^ton; END_VAR", "VAR a : ARRAY[1..2] OF ^ARRAY[1..2] OF INT; END_VAR",
		"VAR a : INT; ^END_PROGRAM", "VAR a : INT; ^VAR b : INT; END_VAR END_VAR", "x := 1; ^VAR END_VAR", "VAR END_VAR^; x := 1;", "VAR ^1 : INT; END_VAR", "VAR a : INT^, b : INT; END_VAR", "VAR a^.b : INT; END_VAR",
	)
}

func TestStatementFaults(t *testing.T) {
	misfits(t,
		"a := b +^;", "^;", "a := 1;^;", "^1 := a;", "a ^= 1;", "a^;", "a^.b := 1;", "^max := 1;", "^max(a := 1);", "a[^] := 1;", "a[1^) := 1;", "a[1]^;", "a[1]^[1] := 1;", "a := 1 ^b := 2;",
		"EXIT ^1;", "CONTINUE ^EXIT;", "RETURN ^a;", "x(^1);", "x(a^);", "x(a := 1^;", "x(a := 1,^);", "x(^, a := 1);", "x(a => ^1);", "x(a => b^.c);", "x(a => b^[1]);", "x(a ^= 1);", "x(a := ^);", "x() ^y();",
	)
	misfits(t,
		"IF ^THEN END_IF;", "IF a ^DO END_IF;", "IF a THEN END_IF ^EXIT;", "IF a THEN ELSE ^ELSE END_IF;", "IF a THEN ELSE ^ELSIF b THEN END_IF;", "IF a THEN ^END_CASE;", "^ELSE", "^END_IF;", "IF a THEN ELSIF ^THEN END_IF;",
		"CASE a OF ^END_CASE;", "CASE a OF ^ELSE END_CASE;", "CASE a OF 1 ^END_CASE;", "CASE a OF 1,^: END_CASE;", "CASE a OF ^b: END_CASE;", "CASE a OF ^TRUE: END_CASE;", "CASE a OF ^T#1s: END_CASE;", "CASE a OF -^-1: END_CASE;",
		"CASE a OF 1..^: END_CASE;", "CASE a OF 1..2^..3: END_CASE;", "CASE a OF 1: ^END_IF;", "CASE a OF 1: ELSE ^2: END_CASE;", "CASE a OF 1: b := 1 ^2: END_CASE;", "CASE a ^1: END_CASE;", "CASE a OF 1: ELSE ^-2: END_CASE;",
	)
	misfits(t,
		"FOR i ^= 1 TO 2 DO END_FOR;", "FOR i := ^a TO 2 DO END_FOR;", "FOR i := 1 ^DO END_FOR;", "FOR i := 1 TO ^a DO END_FOR;", "FOR i := 1 TO 2 BY ^DO END_FOR;", "FOR i := 1 TO 2 ^EXIT; END_FOR;", "FOR i := 1 TO 2 DO ^END_WHILE;", "FOR i^[1] := 1 TO 2 DO END_FOR;", "FOR i := 1 ^+ 1 TO 2 DO END_FOR;",
		"WHILE a ^DO END_WHILE;", "WHILE a MAX ^DO END_WHILE;", "WHILE a MAX ^-1 DO END_WHILE;", "WHILE a MAX ^b DO END_WHILE;", "WHILE a MAX 1 ^EXIT; END_WHILE;", "WHILE a MAX ^(1) DO END_WHILE;", "WHILE a + ^MAX 1 DO END_WHILE;", "WHILE ^MAX 1 DO END_WHILE;", "WHILE a MAX 1 DO ^END_FOR;", "WHILE max(a) ^(1) DO END_WHILE;",
		"REPEAT ^END_REPEAT;", "REPEAT UNTIL a ^END_REPEAT;", "REPEAT UNTIL a MAX ^END_REPEAT;", "REPEAT UNTIL a MAX 1^; END_REPEAT;", "REPEAT UNTIL a MAX ^T#1s END_REPEAT;",
	)
}

func TestExpressionFaults(t *testing.T) {
	misfits(t,
		"a := ^;", "a := (^);", "a := (b^;", "a := b^);", "a := b ^c;", "a := b ^1;", "a := b ^NOT c;", "a := NOT^;", "a := -^;", "a := b OR ^OR c;", "a := ^* b;", "a := ^+ b;", "a := b - ^+ 1;", "a := b[^];", "a := b[1^;", "a := b[1^, 2];",
		"a := b.^1;", "a := b.^;", "a := b.c^.d;", "a := b.c^[1];", "a := b.c^(1);", "a := b[1]^[2];", "a := b[1]^.c;", "a := b(1)^[2];", "a := b(1)^.c;", "a := f(^);", "a := f(^, 1);", "a := f(1,^);", "a := f(1 ^2);", "a := f(b ^:= 1);", "a := f(1^;",
		"a := (b)^(c);", "a := (b)^[c];", "a := 1^(2);", "a := 1^.2;", "a := TRUE^(1);", "a := ^max;", "a := ^max + 1;", "a := ^max[1];", "a := ^max.b;", "a := min_ ^b;", "a := b ^max(1);", "a := b.^max(1);", "a := ^int;", "a := ^prev(b);",
	)
}

// Of several faults the first token's is told; the one of its own ahead of what the grammar says.
func TestFirstFault(t *testing.T) {
	long := strings.Repeat("x", api.MaxName+1)
	refuseIn(t, []wrong{
		{"a := ^max %;", api.ErrText}, {"a := ^max (* no end", api.ErrText}, {"a := -^99999999999;", api.ErrRange}, {"a ^b := %;", api.ErrText}, {"a ^" + long + " %;", api.ErrLong},
		{"FOR i := 0 TO ^10000 %", api.ErrRange}, {"FOR i := 0 TO 9 BY ^0 %", api.ErrRange}, {"WHILE a MAX ^0 %", api.ErrRange}, {"CASE a OF 2..^1 %", api.ErrRange}, {"VAR a : ARRAY[1..^0 %", api.ErrRange},
		{"FOR i := 0 TO ^99999999999 %", api.ErrRange}, {"FOR i := 0 TO ^1z %", api.ErrText}, {"FOR i := 0 TO ^10000 BY 0 DO", api.ErrRange}, {"REPEAT UNTIL a MAX ^10001 ;", api.ErrRange},
	})
}

func TestTextSize(t *testing.T) {
	s := "PROGRAM p END_PROGRAM"
	s += strings.Repeat(" ", api.MaxText-len(s))
	if l, f := source.Parse(s); len(l) != 1 || f != (api.Fault{}) {
		t.Errorf("MaxText bytes: %d units, %v", len(l), f)
	}
	for _, x := range []string{s + " ", "%" + s, strings.Repeat("%", 1000000)} {
		if l, f := source.Parse(x); len(l) != 0 || f != (api.Fault{Code: api.ErrSize}) {
			t.Errorf("%d bytes: %d units, %v", len(x), len(l), f)
		}
	}
}

func TestSizes(t *testing.T) {
	unit := func(i int) string { return fmt.Sprintf("PROGRAM p%d END_PROGRAM", i) }
	full := many(api.MaxUnits, " ", unit)
	if l, f := source.Parse(full); len(l) != api.MaxUnits || f != (api.Fault{}) {
		t.Errorf("MaxUnits: %d, %v", len(l), f)
	}
	for _, s := range []string{" ^PROGRAM", " ^FUNCTION", " ^FUNCTION_BLOCK %"} {
		refuse(t, api.MaxUnits, []wrong{{full + s, api.ErrSize}})
	}
	refuse(t, api.MaxUnits, []wrong{{full + " ^x", api.ErrText}, {full + " ^%", api.ErrText}, {full + " ^VAR", api.ErrText}})

	vars := func(n int) string { return many(n, ", ", func(i int) string { return fmt.Sprintf("v%d", i) }) }
	all := vars(api.MaxVars)
	accept(t, "VAR "+all+" : INT; END_VAR", "VAR "+vars(100)+" : INT; END_VAR VAR_INPUT "+vars(99)+" : INT; w : INT; END_VAR")
	refuseIn(t, []wrong{
		{"VAR " + all + ", ^v : INT; END_VAR", api.ErrSize}, {"VAR " + all + ", ^v %", api.ErrSize}, {"VAR " + all + ", ^%", api.ErrText}, {"VAR " + all + ", ^int", api.ErrText},
		{"VAR " + all + " : INT; ^w : INT; END_VAR", api.ErrSize}, {"VAR " + all + " : INT; END_VAR VAR_OUTPUT ^w : INT; END_VAR", api.ErrSize}, {"VAR " + all + " : INT; END_VAR VAR_OUTPUT ^" + strings.Repeat("w", 25), api.ErrLong},
	})
	two := "PROGRAM p VAR " + all + " : INT; END_VAR END_PROGRAM "
	if l, f := source.Parse(two + two); len(l) != 2 || f != (api.Fault{}) {
		t.Errorf("MaxVars in two units: %d, %v", len(l), f)
	}
	refuse(t, 1, []wrong{{two + "PROGRAM q VAR " + all + ", ^v : INT; END_VAR END_PROGRAM", api.ErrSize}})

	args := func(n int) string { return many(n, ", ", func(i int) string { return fmt.Sprintf("%d", i) }) }
	accept(t, "a := f("+args(api.MaxArgs)+");", "a := f("+args(api.MaxArgs-1)+", f("+args(api.MaxArgs)+"));")
	for _, s := range []string{"^9", "^-9", "^NOT a", "^(9)", "^max(1)", "^T#1s", "^TRUE", "^a"} {
		refuseIn(t, []wrong{{"a := f(" + args(api.MaxArgs) + ", " + s + ");", api.ErrSize}, {"a := max(" + args(api.MaxArgs) + ", " + s + " %", api.ErrSize}})
	}
	refuseIn(t, []wrong{{"a := f(" + args(api.MaxArgs) + ", ^);", api.ErrText}, {"a := f(" + args(api.MaxArgs) + ", ^max);", api.ErrText}, {"a := f(" + args(api.MaxArgs) + ", ^1z);", api.ErrText}})

	gives := func(n int) string {
		return many(n, ", ", func(i int) string { return []string{"a := 1", "b => c"}[i%2] })
	}
	accept(t, "x("+gives(2*api.MaxArgs)+");")
	refuseIn(t, []wrong{{"x(" + gives(2*api.MaxArgs) + ", ^a := 1);", api.ErrSize}, {"x(" + gives(2*api.MaxArgs) + ", ^a %", api.ErrSize}, {"x(" + gives(2*api.MaxArgs) + ", ^1);", api.ErrText}, {"x(" + gives(2*api.MaxArgs) + "^;", api.ErrText}})
}

func TestRanges(t *testing.T) {
	accept(t,
		"VAR a : ARRAY[0..999] OF INT; END_VAR", "VAR a : ARRAY[-1000..-1] OF INT; END_VAR", "VAR a : ARRAY[7..7] OF INT; END_VAR", "VAR a : ARRAY[-4294967295..-4294967295] OF INT; END_VAR", "VAR a : ARRAY[4294966296..4294967295] OF INT; END_VAR",
		"CASE a OF 5..5: -5..4294967295: -4294967295..-5: END_CASE;",
		"FOR i := 0 TO 9999 DO END_FOR;", "FOR i := 1 TO 10000 BY 10000 DO END_FOR;", "FOR i := -5000 TO 4999 BY 1 DO END_FOR;", "FOR i := 4294967295 TO -4294967295 DO END_FOR;", "FOR i := 5 TO 4 DO END_FOR;",
		"WHILE a MAX 1 DO END_WHILE; WHILE a MAX 10000 DO END_WHILE;", "REPEAT UNTIL a MAX 1 END_REPEAT; REPEAT UNTIL a MAX 10000 END_REPEAT;",
	)
	refuseIn(t, []wrong{
		{"VAR a : ARRAY[0..^1000] OF INT; END_VAR", api.ErrRange}, {"VAR a : ARRAY[-1000..^0] OF INT; END_VAR", api.ErrRange}, {"VAR a : ARRAY[8..^7] OF INT; END_VAR", api.ErrRange}, {"VAR a : ARRAY[-7..-^8] OF INT; END_VAR", api.ErrRange}, {"VAR a : ARRAY[-4294967295..^4294967295] OF INT; END_VAR", api.ErrRange},
		{"CASE a OF 5..^4: END_CASE;", api.ErrRange}, {"CASE a OF -4..- ^5: END_CASE;", api.ErrRange}, {"CASE a OF 1, 2: 3, 5..^4: END_CASE;", api.ErrRange},
		{"FOR i := 0 TO ^10000 DO END_FOR;", api.ErrRange}, {"FOR i := 0 TO ^10000 BY 2 DO END_FOR;", api.ErrRange}, {"FOR i := -10000 TO ^0 DO END_FOR;", api.ErrRange}, {"FOR i := -20000 TO -^10000 DO END_FOR;", api.ErrRange}, {"FOR i := -4294967295 TO ^4294967295 DO END_FOR;", api.ErrRange},
		{"FOR i := 0 TO 9 BY ^0 DO END_FOR;", api.ErrRange}, {"FOR i := 0 TO 9 BY -^1 DO END_FOR;", api.ErrRange}, {"FOR i := 0 TO 9 BY - ^0 DO END_FOR;", api.ErrRange}, {"FOR i := 0 TO 9 BY ^10001 DO END_FOR;", api.ErrRange}, {"FOR i := 9 TO 0 BY ^10001 DO END_FOR;", api.ErrRange},
		{"WHILE a MAX ^0 DO END_WHILE;", api.ErrRange}, {"WHILE a MAX ^10001 DO END_WHILE;", api.ErrRange}, {"REPEAT UNTIL a MAX ^0 END_REPEAT;", api.ErrRange}, {"REPEAT UNTIL a MAX ^10001 END_REPEAT;", api.ErrRange},
	})
}
