package code_test

import (
	"fmt"
	"strings"
	"testing"

	"plantwright/api"
	"plantwright/code"
)

// play: a program's runs, one behind the other at the times 0, 1, ..; behind each the variables named in want, as "a=1 b=2", faults as "!2".
func play(t *testing.T, text string, want ...string) {
	t.Helper()
	c := compiled(t, text)
	bounds, _ := code.Verify(c)
	at := len(c.Procs) - 1
	frame := c.Procs[at].First
	for now, w := range want {
		r := code.Run(c, at, frame, now)
		if r.Code != api.OK || r.Steps > bounds[at] {
			t.Fatalf("%s: run %d: %v, bound %d", text, now, r, bounds[at])
		}
		faults := 0
		var got []string
		for _, part := range strings.Fields(w) {
			if _, err := fmt.Sscanf(part, "!%d", &faults); err == nil {
				continue
			}
			got = append(got, part[:strings.Index(part, "=")+1]+valueOf(t, c.Procs[at], r.Frame, part[:strings.Index(part, "=")]))
		}
		if r.Faults != 0 {
			got = append(got, fmt.Sprint("!", r.Faults))
		}
		if s := strings.Join(got, " "); s != w {
			t.Errorf("%s: run %d: %s, not %s", text, now, s, w)
		}
		frame = r.Frame
	}
}

func valueOf(t *testing.T, p api.Proc, frame []int, path string) string {
	t.Helper()
	for _, s := range p.Slots {
		if s.Path == path {
			l := frame[s.At : s.At+max(s.Len, 1)]
			return strings.ReplaceAll(strings.Trim(fmt.Sprint(l), "[]"), " ", ",")
		}
	}
	t.Fatalf("no slot %s", path)
	return ""
}

func prog(vars, list string) string {
	return "PROGRAM p VAR " + vars + " END_VAR " + list + " END_PROGRAM"
}

func TestVariablesAreKept(t *testing.T) {
	play(t, prog("a : INT := 5; y : ARRAY[1..2] OF INT := 3; b : BOOL;", "a := a + 1; y[2] := y[2] * 2; b := NOT b;"), "a=6 y=3,6 b=1", "a=7 y=3,12 b=0", "a=8 y=3,24 b=1")
	play(t, prog("a : INT := 32767; d : DINT; w : WORD; z : TIME;", "a := a + 1; d := -2147483648 / -1; w := NOT w; z := z - T#1ms;"), "a=-32768 d=-2147483648 w=65535 z=4294967295", "a=-32767 w=0 z=4294967294")
}

func TestWhatGoesWrong(t *testing.T) {
	play(t, prog("a : INT := 5; z : INT;", "a := a / z; a := a + 7 MOD z; a := a + 1;"), "a=1 !2", "a=1 !2")
	play(t, prog("y : ARRAY[1..3] OF INT := 4; a : INT := 9; i : INT;", "a := y[i]; y[i] := 7; i := i + 1;"), "a=0 y=4,4,4 !2", "a=4 y=7,4,4", "y=7,7,4", "a=4 y=7,7,7", "a=0 y=7,7,7 !2")
	// both operands are worked out, always
	play(t, prog("b, c : BOOL; i : INT; y : ARRAY[1..1] OF BOOL;", "b := FALSE AND y[0]; c := TRUE OR y[2] OR y[3];"), "b=0 c=1 !3")
	play(t, prog("i : INT; a : INT := 3;", "a := sel(TRUE, 1 / i, 2);"), "a=2 !1")
	play(t, prog("y : ARRAY[0..1] OF INT; i : INT;", "y[5] := 1 / i;"), "y=0,0 !2")
}

func TestInstances(t *testing.T) {
	block := "FUNCTION_BLOCK k VAR_INPUT x, z : INT; END_VAR VAR_OUTPUT y, w : INT; END_VAR VAR n : INT := 10; END_VAR n := n + 1; y := x * 10 + z; w := n; END_FUNCTION_BLOCK "
	// inputs that are not given stay; an instance keeps its own
	play(t, block+prog("a, b : k; u, v, r : INT;", "r := r + 1; IF r = 1 THEN a(x := 4, z := 2, y => u); ELSIF r = 2 THEN a(z := 5, w => v, y => u); ELSE b(); a(); u := a.y; v := b.w; END_IF;"), "u=42 v=0 a.n=11 b.n=10", "u=45 v=12", "u=45 v=11 a.n=13 b.n=11", "u=45 v=12 a.x=4 a.z=5")
	// an input takes its value at once, so that later ones see what was there, and outputs come in order
	play(t, block+prog("a : k; u : INT := 7;", "a(x := a.y + 1, z := a.w, y => u, w => u);"), "u=11 a.y=10", "u=12 a.x=11 a.z=11 a.y=121")
	play(t, "FUNCTION f : INT VAR_INPUT x : INT; END_VAR f := x + 1; END_FUNCTION "+block+prog("a : k; u : INT;", "a(x := f(u), z := f(f(u)), y => u); u := u - 10;"), "u=2 a.x=1 a.z=2", "u=24 a.x=3 a.z=4")
	play(t, prog("t : TON; q : BOOL; e : TIME; i : BOOL := TRUE;", "t(in := i, pt := T#2ms, q => q, et => e);"), "q=0 e=0", "q=0 e=1", "q=1 e=2", "q=1 e=2")
	play(t, prog("c : CTU; u : BOOL; n : INT;", "u := NOT u; c(cu := u, pv := 2, cv => n); u := NOT u; c(cu := FALSE); u := NOT u;"), "n=1 u=1", "n=1 u=0", "n=2 u=1")
	play(t, "FUNCTION_BLOCK e1 VAR_INPUT i : BOOL; END_VAR VAR_OUTPUT q : BOOL; END_VAR VAR r : R_TRIG; END_VAR r(clk := i, q => q); END_FUNCTION_BLOCK "+prog("a, b : e1; f : BOOL;", "f := NOT f; a(i := f); b(i := NOT f);"), "a.q=1 b.q=0", "a.q=0 b.q=1", "a.q=1 b.q=0 a.r.%prev=1 b.r.%prev=0")
}

func TestReturnOfBlocks(t *testing.T) {
	play(t, "FUNCTION_BLOCK k VAR_OUTPUT y : INT; END_VAR y := y + 1; IF y > 1 THEN RETURN; END_IF; y := 5; END_FUNCTION_BLOCK "+prog("a : k; n : INT;", "a(y => n); IF n > 6 THEN RETURN; END_IF; n := -n;"), "n=-5", "n=-6", "n=7", "n=8")
}

func TestChoices(t *testing.T) {
	play(t, prog("a, r : INT;", "IF a = 0 THEN r := 10; ELSIF a < 2 THEN r := 20; ELSIF a = 1 THEN r := 30; ELSE r := 40; END_IF; a := a + 1;"), "r=10", "r=20", "r=40", "r=40")
	play(t, prog("a, r : INT;", "r := 0; CASE a OF 0, 4: r := 1; 1..2: r := 2; 7: r := 3; ELSE r := 9; END_CASE; a := a + 1;"), "r=1", "r=2", "r=2", "r=9", "r=1", "r=9", "r=9", "r=3")
	play(t, prog("a : INT := -2; r : INT;", "r := 0; CASE a OF -2..-1: r := 1; END_CASE; a := a + 1;"), "r=1", "r=1", "r=0")
	// the value is worked out once
	play(t, prog("a, r : INT;", "CASE 1 / a OF 1: r := 1; 0: r := 5; END_CASE;"), "r=5 !1")
}

func TestForLoops(t *testing.T) {
	play(t, prog("i, n, s : INT;", "FOR i := 2 TO 9 BY 3 DO n := n + 1; s := s * 10 + i; END_FOR;"), "i=8 n=3 s=258")
	play(t, prog("i, n, s : INT;", "FOR i := 2 TO 8 BY 3 DO n := n + 1; END_FOR; FOR i := -2 TO -2 BY 9 DO s := i; END_FOR;"), "i=-2 n=3 s=-2")
	play(t, prog("i : INT := 77; n : INT;", "FOR i := 2 TO 1 DO n := n + 1; END_FOR;"), "i=77 n=0")
	play(t, prog("i, n : INT;", "FOR i := 32766 TO 32767 DO n := n + 1; END_FOR; n := n + i;"), "i=32767 n=-32767")
	play(t, prog("i : INT; n : DINT;", "FOR i := -32768 TO -32766 BY 2 DO n := n + int_to_dint(i); END_FOR;"), "i=-32766 n=-65534")
	play(t, prog("i, n : INT;", "FOR i := 1 TO 9 DO IF i MOD 2 = 0 THEN CONTINUE; END_IF; IF i > 6 THEN EXIT; END_IF; n := n * 10 + i; END_FOR;"), "i=7 n=135")
	play(t, prog("i, j, n : INT;", "FOR i := 1 TO 3 DO FOR j := 1 TO 3 DO IF j > i THEN EXIT; END_IF; n := n + 1; END_FOR; END_FOR;"), "i=3 j=3 n=6")
	play(t, "FUNCTION f : INT VAR_INPUT n : INT; END_VAR FOR f := 1 TO 9 DO IF f > n THEN RETURN; END_IF; END_FOR; END_FUNCTION "+prog("a : INT;", "a := a + f(3) * 10 + f(20);"), "a=49")
}

func TestBoundedLoops(t *testing.T) {
	play(t, prog("a, n : INT;", "a := 0; WHILE a < 4 MAX 4 DO a := a + 1; END_WHILE;"), "a=4")
	play(t, prog("a, n : INT;", "a := 0; WHILE a < 5 MAX 4 DO a := a + 1; END_WHILE;"), "a=4 !1")
	play(t, prog("a, n : INT := 3;", "WHILE FALSE MAX 4 DO a := 9; END_WHILE;"), "a=3")
	play(t, prog("a, n : INT;", "a := 0; REPEAT a := a + 1; UNTIL a >= 4 MAX 4 END_REPEAT;"), "a=4")
	play(t, prog("a, n : INT;", "a := 0; REPEAT a := a + 1; UNTIL a >= 5 MAX 4 END_REPEAT;"), "a=4 !1")
	play(t, prog("a, n : INT;", "REPEAT a := a + 1; UNTIL TRUE MAX 4 END_REPEAT;"), "a=1", "a=2")
	play(t, prog("a : INT;", "REPEAT a := a + 1; UNTIL FALSE MAX 1 END_REPEAT; WHILE TRUE MAX 1 DO a := a + 10; END_WHILE;"), "a=11 !2")
	// EXIT is no fault, not even behind the last round
	play(t, prog("a : INT;", "WHILE TRUE MAX 3 DO a := a + 1; IF a = 3 THEN EXIT; END_IF; END_WHILE; REPEAT a := a + 1; EXIT; UNTIL FALSE MAX 1 END_REPEAT;"), "a=4")
	// CONTINUE goes on with the condition
	play(t, prog("a, n : INT;", "WHILE a < 9 MAX 4 DO a := a + 1; IF a = 2 THEN CONTINUE; END_IF; n := n * 10 + a; END_WHILE;"), "a=4 n=134 !1")
	play(t, prog("a, n : INT;", "REPEAT a := a + 1; IF a < 3 THEN CONTINUE; END_IF; n := n + a; UNTIL a = 2 OR a > 3 MAX 9 END_REPEAT;"), "a=2 n=0", "a=4 n=7")
	// what goes wrong in the condition counts each time: behind the rounds, too
	play(t, prog("a, z : INT;", "WHILE 1 / z = 0 MAX 3 DO a := a + 1; END_WHILE;"), "a=3 !5")
	play(t, prog("a, z : INT;", "REPEAT a := a + 1; UNTIL 1 / z = 1 MAX 3 END_REPEAT;"), "a=3 !4")
}

func TestFunctionsBeginAnew(t *testing.T) {
	f := "FUNCTION f : INT VAR_INPUT x : INT; END_VAR VAR o : INT := 7; y : ARRAY[0..1] OF INT := 2; END_VAR f := f + x + o + y[1]; o := 100; y[1] := 100; END_FUNCTION "
	play(t, f+prog("a, b : INT;", "a := f(1); b := f(2) * 100 + f(3);"), "a=10 b=1112", "a=10 b=1112")
	play(t, f+prog("a : INT;", "a := f(f(f(1)) + f(2));"), "a=39")
	play(t, "FUNCTION f : INT VAR_INPUT x, y : INT; END_VAR f := x - y; END_FUNCTION FUNCTION g : INT VAR_INPUT x : INT; END_VAR g := f(x, f(1, x)); END_FUNCTION "+prog("a, b : INT;", "a := f(f(9, 2), f(7, 3)); b := g(4) + f(g(5), 1);"), "a=3 b=15")
	play(t, "FUNCTION f : BOOL VAR_INPUT x : INT; END_VAR IF x > 2 THEN f := TRUE; RETURN; END_IF; END_FUNCTION "+prog("a, b : BOOL;", "a := f(3); b := f(2);"), "a=1 b=0")
}

func TestBuiltins(t *testing.T) {
	play(t, prog("a, b, c, d : INT; w : WORD := 16#81;", "a := limit(3, 1, 9); b := limit(3, 10, 9); c := limit(3, 5, 9); d := limit(9, 5, 3); w := rol(w, 9) XOR 3;"), "a=3 b=9 c=5 d=3 w=514")
	play(t, prog("a, b, c, d : INT; w, v : WORD := 16#81;", "a := sel(a > 0, 1, 2); b := abs(-32768); c := min(3, -1) + max(4, 7); w := shl(w, 8); v := shr(ror(v, 1), 15);"), "a=1 b=-32768 c=6 w=33024 v=1", "a=2")
	play(t, prog("a : INT := -1; d : DINT; w : WORD; b : BOOL; z : TIME;", "d := int_to_dint(a); w := int_to_word(a); b := int_to_bool(a); z := dint_to_time(d); a := bool_to_int(b);"), "a=1 d=-1 w=65535 b=1 z=4294967295")
}
