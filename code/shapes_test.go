package code_test

import (
	"fmt"
	"testing"
)

// ahead: two functions and a block; heads: a program's variables, whose places are told behind them.
const (
	ahead = `FUNCTION f : INT VAR_INPUT x : INT; END_VAR VAR o : INT := 7; END_VAR VAR_INPUT q : BOOL; END_VAR END_FUNCTION
FUNCTION g : BOOL VAR_INPUT x : INT; END_VAR END_FUNCTION
FUNCTION_BLOCK c VAR_INPUT up : BOOL; END_VAR VAR own : INT; END_VAR VAR_OUTPUT n : INT; END_VAR VAR_INPUT st : INT; END_VAR VAR_OUTPUT m : BOOL; END_VAR END_FUNCTION_BLOCK
`
	heads = `VAR
a, i : INT; (* 0, 1 *) d : DINT; (* 2 *) w : WORD; (* 3 *) b : BOOL; (* 4 *) z : TIME; (* 5 *)
y : ARRAY[-1..2] OF INT; (* 6 *) t : TON; (* 10: in pt q et 4 *) k : c; (* 18: up own n st m *) s : SR; (* 23: s1 r q1 on *) END_VAR
VAR RETAIN r : INT; (* 27 *) END_VAR
` // the areas begin at 28
)

func program(list string) string {
	return ahead + "PROGRAM p " + heads + list + " END_PROGRAM"
}

// shape is a list of statements, and what it becomes.
type shape struct{ list, text string }

func shapes(t *testing.T, l ...shape) {
	t.Helper()
	for _, s := range l {
		c := compiled(t, program(s.list))
		same(t, s.list, c.Procs[3].Text, s.text)
	}
}

// The chapter's example.
func TestExample(t *testing.T) {
	c := compiled(t, "PROGRAM p VAR i, s : INT; END_VAR FOR i := 1 TO 3 DO s := s + i; END_FOR; END_PROGRAM")
	same(t, "example", c.Procs[0].Text, "Push 0, Store 0, Enter 0 3, Load 0, Push 1, Work Add Int, Store 0, Load 1, Load 0, Work Add Int, Store 1, Round 0 3")
	passes(t, "example", c, 30)
}

func TestShapesOfExpressions(t *testing.T) {
	shapes(t,
		shape{"", ""},
		shape{"a := 5; a := -5; d := 70000; b := TRUE; b := FALSE; z := T#1s; w := 16#FFFF;", "Push 5, Store 0, Push -5, Store 0, Push 70000, Store 2, Push 1, Store 4, Push 0, Store 4, Push 1000, Store 5, Push 65535, Store 3"},
		shape{"a := i; r := r;", "Load 1, Store 0, Load 27, Store 27"},
		shape{"a := y[0];", "Push 0, LoadAt 6 4 -1, Store 0"},
		shape{"a := y[y[i] + 1];", "Load 1, LoadAt 6 4 -1, Push 1, Work Add Int, LoadAt 6 4 -1, Store 0"},
		shape{"b := t.q; z := t.et; a := k.n; b := k.m; b := s.q1;", "Load 12, Store 4, Load 13, Store 5, Load 20, Store 0, Load 22, Store 4, Load 25, Store 4"},
		shape{"a := -i; b := NOT b; w := NOT w; d := -(5);", "Load 1, Work Neg Int, Store 0, Load 4, Work Not Bool, Store 4, Load 3, Work Not Word, Store 3, Push 5, Work Neg Dint, Store 2"},
		shape{"a := a - i * 2; d := d MOD 3 / d; z := z + z;", "Load 0, Load 1, Push 2, Work Mul Int, Work Sub Int, Store 0, Load 2, Push 3, Work Mod Dint, Load 2, Work Div Dint, Store 2, Load 5, Load 5, Work Add Time, Store 5"},
		shape{"b := a < i; b := w >= 3; b := z = T#1s; b := b <> b; b := d <= 1; b := d > 1;", "Load 0, Load 1, Work Lt Int, Store 4, Load 3, Push 3, Work Ge Word, Store 4, Load 5, Push 1000, Work Eq Time, Store 4, Load 4, Load 4, Work Ne Bool, Store 4, Load 2, Push 1, Work Le Dint, Store 4, Load 2, Push 1, Work Gt Dint, Store 4"},
		shape{"b := b AND a < 1 OR b XOR b; w := w & 3;", "Load 4, Load 0, Push 1, Work Lt Int, Work And Bool, Load 4, Load 4, Work Xor Bool, Work Or Bool, Store 4, Load 3, Push 3, Work And Word, Store 3"},
	)
}

func TestShapesOfCalls(t *testing.T) {
	shapes(t,
		shape{"a := abs(i); d := min(d, 3); w := max(4, w); z := min(z, z);", "Load 1, Work Abs Int, Store 0, Load 2, Push 3, Work Min Dint, Store 2, Push 4, Load 3, Work Max Word, Store 3, Load 5, Load 5, Work Min Time, Store 5"},
		shape{"w := shl(w, a); w := shr(w, 2); w := rol(3, i); w := ror(w, 0);", "Load 3, Load 0, Work Shl Word, Store 3, Load 3, Push 2, Work Shr Word, Store 3, Push 3, Load 1, Work Rol Word, Store 3, Load 3, Push 0, Work Ror Word, Store 3"},
		shape{"a := limit(1, i, a + 1); z := limit(z, T#1s, z);", "Push 1, Load 1, Work Max Int, Load 0, Push 1, Work Add Int, Work Min Int, Store 0, Load 5, Push 1000, Work Max Time, Load 5, Work Min Time, Store 5"},
		shape{"a := sel(b, i, 3); b := sel(a < 1, b, TRUE);", "Load 4, Load 1, Push 3, Pick, Store 0, Load 0, Push 1, Work Lt Int, Load 4, Push 1, Pick, Store 4"},
		shape{"d := int_to_dint(a); b := word_to_bool(w); z := dint_to_time(d); a := time_to_int(z); w := bool_to_word(b);", "Load 0, Turn Int Dint, Store 2, Load 3, Turn Word Bool, Store 4, Load 2, Turn Dint Time, Store 5, Load 5, Turn Time Int, Store 0, Load 4, Turn Bool Word, Store 3"},
		shape{"a := f(i, b);", "Load 1, Load 4, Store 31, Store 29, Run 0 28, Load 28, Store 0"},
		shape{"b := g(5);", "Push 5, Store 29, Run 1 28, Load 28, Store 4"},
		// both: areas in the list's order, one each
		shape{"b := g(f(f(1, b), g(2)));", "Push 1, Load 4, Store 31, Store 29, Run 0 28, Load 28, Push 2, Store 33, Run 1 32, Load 32, Store 31, Store 29, Run 0 28, Load 28, Store 33, Run 1 32, Load 32, Store 4"},
	)
}

func TestShapesOfSteps(t *testing.T) {
	shapes(t,
		shape{"y[i] := a; y[2] := y[1];", "Load 1, Load 0, StoreAt 6 4 -1, Push 2, Push 1, LoadAt 6 4 -1, StoreAt 6 4 -1"},
		shape{"t();", "Std 1 10"},
		shape{"k();", "Run 2 18"},
		shape{"s(r := b, s1 := TRUE);", "Load 4, Store 24, Push 1, Store 23, Std 9 23"},
		shape{"t(q => b, pt := z, et => z, in := a < 1);", "Load 5, Store 11, Load 0, Push 1, Work Lt Int, Store 10, Std 1 10, Load 12, Store 4, Load 13, Store 5"},
		shape{"k(m => b, st := k.n, n => a, up := b);", "Load 20, Store 21, Load 4, Store 18, Run 2 18, Load 22, Store 4, Load 20, Store 0"},
	)
}

func TestNumbersOfStandardBlocks(t *testing.T) {
	for i, name := range []string{"ton", "tof", "tp", "ctu", "ctd", "ctud", "r_trig", "f_trig", "sr", "rs", "ramp", "hyst"} {
		c := compiled(t, "PROGRAM p VAR a : INT; x : "+name+"; END_VAR x(); END_PROGRAM")
		same(t, name, c.Procs[0].Text, fmt.Sprintf("Std %d 1", i+1))
	}
}

func TestShapesOfChoices(t *testing.T) {
	shapes(t,
		shape{"IF b THEN END_IF;", "Load 4, Fall 2"},
		shape{"IF b THEN a := 1; END_IF;", "Load 4, Fall 4, Push 1, Store 0"},
		shape{"IF b THEN a := 1; ELSE a := 2; END_IF;", "Load 4, Fall 5, Push 1, Store 0, Jump 7, Push 2, Store 0"},
		shape{"IF b THEN a := 1; ELSIF a < 1 THEN a := 2; END_IF; a := 3;", "Load 4, Fall 5, Push 1, Store 0, Jump 11, Load 0, Push 1, Work Lt Int, Fall 11, Push 2, Store 0, Push 3, Store 0"},
		shape{"IF b THEN ELSIF b THEN ELSE a := 1; END_IF;", "Load 4, Fall 3, Jump 8, Load 4, Fall 6, Jump 8, Push 1, Store 0"},
		// an ELSE that becomes nothing is not empty
		shape{"IF b THEN a := 1; ELSE FOR i := 1 TO 0 DO a := 2; END_FOR; END_IF;", "Load 4, Fall 5, Push 1, Store 0, Jump 5"},
		shape{"IF b THEN IF b THEN a := 1; ELSE a := 2; END_IF; ELSE a := 3; END_IF;", "Load 4, Fall 10, Load 4, Fall 7, Push 1, Store 0, Jump 9, Push 2, Store 0, Jump 12, Push 3, Store 0"},
		shape{"CASE a OF 5: END_CASE;", "Load 0, Dup, Push 5, Work Eq Int, Fall 6, Jump 7, Jump 9, Drop, Jump 10, Drop"},
		shape{"CASE w OF 1: a := 1; ELSE a := 2; END_CASE; a := 3;", "Load 3, Dup, Push 1, Work Eq Word, Fall 6, Jump 7, Jump 11, Drop, Push 1, Store 0, Jump 14, Drop, Push 2, Store 0, Push 3, Store 0"},
		shape{"CASE d OF -7..3: a := 1; END_CASE;", "Load 2, Dup, Push -7, Work Ge Dint, Fall 10, Dup, Push 3, Work Le Dint, Fall 10, Jump 11, Jump 15, Drop, Push 1, Store 0, Jump 16, Drop"},
		shape{"CASE a OF 3..3: END_CASE;", "Load 0, Dup, Push 3, Work Eq Int, Fall 6, Jump 7, Jump 9, Drop, Jump 10, Drop"},
		shape{"CASE a OF 1, 3..4, 9: a := 1; 5: RETURN; END_CASE;",
			"Load 0, Dup, Push 1, Work Eq Int, Fall 6, Jump 21, Dup, Push 3, Work Ge Int, Fall 15, Dup, Push 4, Work Le Int, Fall 15, Jump 21, Dup, Push 9, Work Eq Int, Fall 20, Jump 21, Jump 25, Drop, Push 1, Store 0, Jump 35," +
				"Dup, Push 5, Work Eq Int, Fall 30, Jump 31, Jump 34, Drop, Jump 35, Jump 35, Drop"},
		shape{"CASE a OF 1: CASE i OF 2: END_CASE; END_CASE;", "Load 0, Dup, Push 1, Work Eq Int, Fall 6, Jump 7, Jump 19, Drop, Load 1, Dup, Push 2, Work Eq Int, Fall 14, Jump 15, Jump 17, Drop, Jump 18, Drop, Jump 20, Drop"},
	)
}

func TestShapesOfLoops(t *testing.T) {
	shapes(t,
		shape{"FOR i := 1 TO 3 DO END_FOR;", "Push 0, Store 1, Enter 0 3, Load 1, Push 1, Work Add Int, Store 1, Round 0 3"},
		shape{"FOR i := 1 TO 0 DO a := 1; EXIT; END_FOR;", ""},
		shape{"FOR i := 1 TO 1 DO a := i; END_FOR;", "Push 0, Store 1, Enter 0 1, Load 1, Push 1, Work Add Int, Store 1, Load 1, Store 0, Round 0 3"},
		shape{"FOR d := -3 TO 5 BY 4 DO END_FOR;", "Push -7, Store 2, Enter 0 3, Load 2, Push 4, Work Add Dint, Store 2, Round 0 3"},
		shape{"FOR d := -3 TO 4 BY 4 DO END_FOR;", "Push -7, Store 2, Enter 0 2, Load 2, Push 4, Work Add Dint, Store 2, Round 0 3"},
		shape{"FOR i := 1 TO 10000 BY 10000 DO END_FOR;", "Push -9999, Store 1, Enter 0 1, Load 1, Push 10000, Work Add Int, Store 1, Round 0 3"},
		shape{"FOR i := -32768 TO -32767 DO END_FOR;", "Push 32767, Store 1, Enter 0 2, Load 1, Push 1, Work Add Int, Store 1, Round 0 3"},
		shape{"FOR d := -2147483648 TO -2147483648 BY 3 DO END_FOR;", "Push 2147483645, Store 2, Enter 0 1, Load 2, Push 3, Work Add Dint, Store 2, Round 0 3"},
		shape{"WHILE a < 9 MAX 4 DO a := 1; END_WHILE;", "Enter 0 4, Load 0, Push 9, Work Lt Int, Fall 13, Push 1, Store 0, Round 0 1, Load 0, Push 9, Work Lt Int, Fall 13, Late"},
		shape{"REPEAT a := 1; UNTIL b MAX 7 END_REPEAT; a := 2;", "Enter 0 7, Push 1, Store 0, Load 4, Work Not Bool, Fall 8, Round 0 1, Late, Push 2, Store 0"},
		shape{"REPEAT UNTIL b MAX 10000 END_REPEAT;", "Enter 0 10000, Load 4, Work Not Bool, Fall 6, Round 0 1, Late"},
		// loops side by side share a counter, loops within have one more; those of no round are none
		shape{"FOR i := 1 TO 2 DO WHILE b MAX 3 DO REPEAT UNTIL b MAX 4 END_REPEAT; REPEAT UNTIL b MAX 5 END_REPEAT; END_WHILE; END_FOR; REPEAT UNTIL b MAX 6 END_REPEAT;",
			"Push 0, Store 1, Enter 0 2, Load 1, Push 1, Work Add Int, Store 1, Enter 1 3, Load 4, Fall 26, Enter 2 4, Load 4, Work Not Bool, Fall 16, Round 2 11, Late, Enter 2 5, Load 4, Work Not Bool, Fall 22, Round 2 17, Late, Round 1 8, Load 4, Fall 26, Late, Round 0 3, Enter 0 6, Load 4, Work Not Bool, Fall 33, Round 0 28, Late"},
	)
}

func TestShapesOfJumps(t *testing.T) {
	shapes(t,
		shape{"RETURN; RETURN;", "Jump 2, Jump 2"},
		shape{"IF b THEN RETURN; END_IF; a := 1;", "Load 4, Fall 3, Jump 5, Push 1, Store 0"},
		shape{"FOR i := 1 TO 2 DO EXIT; CONTINUE; RETURN; END_FOR; a := 1;", "Push 0, Store 1, Enter 0 2, Load 1, Push 1, Work Add Int, Store 1, Jump 11, Jump 10, Jump 13, Round 0 3, Push 1, Store 0"},
		shape{"WHILE b MAX 2 DO EXIT; CONTINUE; RETURN; END_WHILE; a := 1;", "Enter 0 2, Load 4, Fall 10, Jump 10, Jump 6, Jump 12, Round 0 1, Load 4, Fall 10, Late, Push 1, Store 0"},
		shape{"REPEAT EXIT; CONTINUE; RETURN; UNTIL a < 1 MAX 2 END_REPEAT; a := 1;", "Enter 0 2, Jump 11, Jump 4, Jump 13, Load 0, Push 1, Work Lt Int, Work Not Bool, Fall 11, Round 0 1, Late, Push 1, Store 0"},
		// they belong to the innermost loop
		shape{"REPEAT WHILE b MAX 2 DO EXIT; CONTINUE; END_WHILE; EXIT; CONTINUE; UNTIL b MAX 3 END_REPEAT;", "Enter 0 3, Enter 1 2, Load 4, Fall 10, Jump 10, Jump 6, Round 1 2, Load 4, Fall 10, Late, Jump 17, Jump 12, Load 4, Work Not Bool, Fall 17, Round 0 1, Late"},
		shape{"WHILE b MAX 2 DO IF b THEN EXIT; ELSE CONTINUE; END_IF; a := 1; END_WHILE;", "Enter 0 2, Load 4, Fall 14, Load 4, Fall 7, Jump 14, Jump 8, Jump 10, Push 1, Store 0, Round 0 1, Load 4, Fall 14, Late"},
		shape{"REPEAT CASE a OF 1: EXIT; ELSE CONTINUE; END_CASE; UNTIL b MAX 2 END_REPEAT;", "Enter 0 2, Load 0, Dup, Push 1, Work Eq Int, Fall 7, Jump 8, Jump 11, Drop, Jump 18, Jump 13, Drop, Jump 13, Load 4, Work Not Bool, Fall 18, Round 0 1, Late"},
	)
}

// A function begins with its result and its own variables; its inputs are its arguments.
func TestShapesOfFunctions(t *testing.T) {
	c := compiled(t, `FUNCTION f : INT VAR_INPUT x : INT := 3; END_VAR VAR y : ARRAY[2..4] OF INT := 8; z : TIME := T#5ms; v : BOOL; END_VAR VAR_INPUT e : BOOL; END_VAR f := x; END_FUNCTION
FUNCTION g : BOOL VAR_INPUT x : INT; END_VAR VAR u : INT := -1; END_VAR u := f(x, g); RETURN; END_FUNCTION
FUNCTION h : DINT END_FUNCTION`)
	same(t, "f", c.Procs[0].Text, "Fill 0 1 0, Fill 2 3 8, Fill 5 1 5, Fill 6 1 0, Load 1, Store 0")
	same(t, "g", c.Procs[1].Text, "Fill 0 1 0, Fill 2 1 -1, Load 1, Load 0, Store 10, Store 4, Run 0 3, Load 3, Store 2, Jump 10")
	same(t, "h", c.Procs[2].Text, "Fill 0 1 0")
	passes(t, "functions", c, 8, 18, 1)
}
