package check_test

import (
	"fmt"
	"strings"
	"testing"

	"plantwright/api"
)

func TestSet(t *testing.T) {
	kinds(t,
		right{"y[1] := 2;", "2:i 1:d"}, right{"yd[a] := 70000;", "70000:d a:i"}, right{"yb[d] := b;", "b:b d:d"}, right{"ky[y[a]] := 65535;", "65535:w y[a:i]:i"}, right{"k := 5;", "5:i"},
	)
	refuseIn(t,
		wrong{"^none := none;", api.ErrName}, wrong{"^p := 1;", api.ErrName}, wrong{"^y := none;", api.ErrKind}, wrong{"^t := none;", api.ErrKind},
		wrong{"^none[none] := none;", api.ErrName}, wrong{"^a[none] := none;", api.ErrKind}, wrong{"^t[none] := none;", api.ErrKind}, wrong{"^gf[none] := 1;", api.ErrKind},
		wrong{"y[^none] := none;", api.ErrName}, wrong{"y[^b] := none;", api.ErrKind}, wrong{"y[^w] := none;", api.ErrKind}, wrong{"y[^TRUE] := 1;", api.ErrKind}, wrong{"y[1] := ^none;", api.ErrName}, wrong{"y[1] := ^d;", api.ErrKind}, wrong{"y[1] := ^40000;", api.ErrRange}, wrong{"y[1] := d ^+ 1;", api.ErrKind},
		wrong{"a := ^none;", api.ErrName}, wrong{"a := ^d;", api.ErrKind}, wrong{"a := d ^+ d;", api.ErrKind},
	)
}

func TestWritten(t *testing.T) {
	accept(t, "gt := TRUE; gm := 1; gt := FALSE; gz := T#1s;", "k := 1; kd := 2; ky[0] := 3;", "IF b THEN gm := 1; ELSE gm := 2; END_IF;")
	refuseIn(t,
		wrong{"^gf := none;", api.ErrWrite}, wrong{"^gs := none;", api.ErrWrite}, wrong{"FOR a := 1 TO 2 DO ^a := none; END_FOR;", api.ErrWrite},
		wrong{"FOR a := 1 TO 2 DO FOR c := 1 TO 2 DO WHILE b MAX 1 DO IF b THEN ^a := none; END_IF; END_WHILE; END_FOR; END_FOR;", api.ErrWrite},
		wrong{"FOR a := 1 TO 2 DO FOR c := 1 TO 2 DO END_FOR; c := 1; ^a := 1; END_FOR;", api.ErrWrite},
	)
	accept(t, "FOR a := 1 TO 2 DO c := a; END_FOR; a := 1;", "FOR a := 1 TO 2 DO END_FOR; FOR a := 1 TO 2 DO END_FOR;", "FOR a := 1 TO 2 DO FOR c := 1 TO 2 DO d := 1; END_FOR; c := 1; END_FOR;")
	checked(t, "FUNCTION_BLOCK f VAR_INPUT x : INT; END_VAR VAR_OUTPUT o : INT; END_VAR VAR RETAIN r : INT; END_VAR o := x; o := o + 1; r := o; END_FUNCTION_BLOCK")
	refuse(t, 0,
		wrong{"FUNCTION_BLOCK f VAR_INPUT x : INT; END_VAR ^x := none; END_FUNCTION_BLOCK", api.ErrWrite},
		wrong{"FUNCTION f : INT VAR_INPUT x : INT; END_VAR ^x := 1; END_FUNCTION", api.ErrWrite},
	)
}

// A global is written by one program alone.
func TestWriters(t *testing.T) {
	first := "PROGRAM one VAR_EXTERNAL gm : DINT; gt : BOOL; END_VAR VAR t : ton; END_VAR gm := 1; IF FALSE THEN t(q => gt); END_IF; END_PROGRAM "
	second := "PROGRAM two VAR_EXTERNAL gm : DINT; gt : BOOL; gz : TIME; END_VAR VAR t : ton; d : DINT; END_VAR d := gm; %s END_PROGRAM"
	third := " PROGRAM three VAR_EXTERNAL gz : TIME; END_VAR %s END_PROGRAM"
	with := func(s string) string { return first + fmt.Sprintf(second, s) }
	checked(t, with("gz := T#1s; t(in := gt, et => gz);")+fmt.Sprintf(third, ""))
	checked(t, with("")+fmt.Sprintf(third, "gz := T#2s;"))
	refuse(t, 1,
		wrong{with("^gm := none;"), api.ErrWrite}, wrong{with("^gt := none;"), api.ErrWrite}, wrong{with("t(^q => gt);"), api.ErrWrite},
	)
	refuse(t, 2, wrong{with("gz := T#1s;") + fmt.Sprintf(third, "^gz := T#2s;"), api.ErrWrite}, wrong{with("t(et => gz);") + fmt.Sprintf(third, "IF FALSE THEN ^gz := T#2s; END_IF;"), api.ErrWrite})
	// a variable of the same name that is no global is another thing
	checked(t, first+"PROGRAM two VAR gm : DINT; END_VAR gm := 1; END_PROGRAM FUNCTION gt : INT gt := 1; END_FUNCTION")
}

func TestInvoke(t *testing.T) {
	accept(t, "t();", "u();", "t(in := b, pt := T#5s, q => b, et => z);", "t(q => b, in := TRUE);", "u(n := 5, o := 1 < 2, r => d, f => gt);", "v(pv := a, cu := b);", "t(in := t.q); t(in := b);", "u(r => kd); u(r => gm);", "t(q => b, et => z);")
	us := checked(t, program("u(o := u.f, n := 1 + 2, r => d);"))
	args := us[unitsAhead].Body[0].Args
	if got := told(args[0].E) + " " + told(args[1].E); got != "u.f:b 1(1:i 2:i):i" || args[2].E.Kind != api.None {
		t.Error(got, args)
	}
	refuseIn(t,
		wrong{"^none(x := none);", api.ErrName}, wrong{"^p();", api.ErrName}, wrong{"^ton();", api.ErrName}, wrong{"^fb();", api.ErrName}, wrong{"^twice();", api.ErrName}, wrong{"^a();", api.ErrKind}, wrong{"^y(x := none);", api.ErrKind}, wrong{"^gt();", api.ErrKind},
		wrong{"t(^x := none);", api.ErrName}, wrong{"t(^q := none);", api.ErrName}, wrong{"t(^in => none);", api.ErrName}, wrong{"t(^run := none);", api.ErrName}, wrong{"u(^own := 1);", api.ErrName}, wrong{"u(^kept => a);", api.ErrName}, wrong{"u(^r := 1);", api.ErrName}, wrong{"u(^n => a);", api.ErrName},
		wrong{"t(in := b, ^in := none);", api.ErrTwice}, wrong{"t(q => b, ^q => none);", api.ErrTwice}, wrong{"t(in := b, q => b, pt := z, ^q => b);", api.ErrTwice}, wrong{"u(n := 1, o := b, ^n := 1);", api.ErrTwice},
		wrong{"t(in := ^none);", api.ErrName}, wrong{"t(in := ^1);", api.ErrKind}, wrong{"t(in := ^a, x := b);", api.ErrKind}, wrong{"t(in := a ^+ 1);", api.ErrKind}, wrong{"t(pt := ^5);", api.ErrKind}, wrong{"u(n := ^40000);", api.ErrRange}, wrong{"u(n := ^d);", api.ErrKind},
		wrong{"t(^q => none);", api.ErrName}, wrong{"t(^q => y);", api.ErrKind}, wrong{"t(^q => yb);", api.ErrKind}, wrong{"t(^q => t);", api.ErrKind}, wrong{"t(^q => a);", api.ErrKind}, wrong{"u(^r => a);", api.ErrKind}, wrong{"t(^et => d, x := 1);", api.ErrKind},
		wrong{"v(^cv => gf);", api.ErrWrite}, wrong{"t(^q => gf);", api.ErrWrite}, wrong{"t(^q => gs);", api.ErrWrite}, wrong{"FOR d := 1 TO 2 DO u(^r => d); END_FOR;", api.ErrWrite}, wrong{"FOR d := 1 TO 2 DO t(^q => d); END_FOR;", api.ErrWrite},
	)
	refuse(t, 0, wrong{"FUNCTION_BLOCK f VAR_INPUT x : BOOL; END_VAR VAR t : ton; END_VAR t(^q => x); END_FUNCTION_BLOCK", api.ErrWrite})
	checked(t, "FUNCTION_BLOCK f VAR_OUTPUT x : BOOL; END_VAR VAR t : ton; END_VAR t(q => x); END_FUNCTION_BLOCK")
}

func TestConditions(t *testing.T) {
	for _, form := range []string{"IF %s THEN END_IF;", "IF b THEN ELSIF %s THEN END_IF;", "WHILE %s MAX 1 DO END_WHILE;", "REPEAT UNTIL %s MAX 1 END_REPEAT;"} {
		for _, e := range []string{"b", "TRUE", "a < 1", "1 < 2", "NOT b AND t.q", "sel(b, TRUE, b)"} {
			accept(t, fmt.Sprintf(form, e))
		}
		for _, e := range []string{"^a", "^1", "^w", "^T#1s", "a ^+ 1", "^-a", "^twice(1)", "w ^AND 1"} {
			refuseIn(t, wrong{fmt.Sprintf(form, e), api.ErrKind})
		}
		refuseIn(t, wrong{fmt.Sprintf(form, "^none"), api.ErrName})
	}
}

// The parts of a statement are looked at in the order of the text.
func TestOrderOfParts(t *testing.T) {
	parts := func(form string) {
		for i := range strings.Count(form, "%s") {
			text := form
			for j := range strings.Count(form, "%s") {
				part := "EXIT;"
				at := strings.Index(text, "%s")
				if strings.HasSuffix(text[:at], "(") {
					part = "none"
				}
				if j == i {
					part = "^" + part
				}
				if j < i {
					part = map[bool]string{true: "b", false: ""}[part == "none"]
				}
				text = text[:at] + part + text[at+2:]
			}
			code := api.ErrLoop
			if strings.Contains(text, "^none") {
				code = api.ErrName
			}
			refuseIn(t, wrong{text, code})
		}
	}
	parts("IF (%s) THEN %s ELSIF (%s) THEN %s %s ELSIF (%s) THEN %s ELSE %s %s END_IF; %s")
	parts("IF b THEN IF (%s) THEN %s ELSE %s END_IF; %s ELSE %s END_IF; %s")
	parts("CASE sel((%s), 1, 2) OF 1: %s %s 2, 3: %s ELSE %s END_CASE; %s")
	refuseIn(t,
		wrong{"WHILE ^none MAX 1 DO a := none; END_WHILE;", api.ErrName}, wrong{"WHILE b MAX 1 DO a := ^none; END_WHILE;", api.ErrName},
		wrong{"REPEAT a := ^none; UNTIL none MAX 1 END_REPEAT;", api.ErrName}, wrong{"REPEAT UNTIL ^none MAX 1 END_REPEAT;", api.ErrName},
		wrong{"FOR a := 1 TO 2 DO c := ^none; END_FOR; EXIT;", api.ErrName},
		wrong{"CASE a OF 1: a := ^none; 1: END_CASE;", api.ErrName}, wrong{"CASE a OF 1: a := ^none; 40000: END_CASE;", api.ErrName}, wrong{"^CASE a OF 1: 1: a := none; END_CASE;", api.ErrTwice},
		wrong{"u(n := ^none, n := 1);", api.ErrName}, wrong{"t(in := b, ^x := 1, in := b);", api.ErrName},
	)
}

func TestCase(t *testing.T) {
	for _, e := range []string{"a", "d", "w", "5", "a + 1", "1 + 2", "u.r"} {
		us := checked(t, program("CASE "+e+" OF 1: 0, 2..4: 5..6, 7: ELSE END_CASE;"))
		if us[unitsAhead].Body[0].E[0].Kind == api.None {
			t.Error(e)
		}
	}
	kinds(t, right{"CASE 1 OF 1: END_CASE;", "1:d"})
	refuseIn(t,
		wrong{"CASE ^b OF 1: 1: EXIT; END_CASE;", api.ErrKind}, wrong{"CASE ^z OF 1: END_CASE;", api.ErrKind}, wrong{"CASE ^none OF 1: END_CASE;", api.ErrName}, wrong{"CASE a ^< 1 OF 1: END_CASE;", api.ErrKind}, wrong{"CASE ^TRUE OF 1: END_CASE;", api.ErrKind}, wrong{"CASE ^y OF 1: END_CASE;", api.ErrKind}, wrong{"CASE ^2147483648 OF 1: END_CASE;", api.ErrRange},
	)
	accept(t, "CASE a OF -32768..32767: END_CASE;", "CASE w OF 0..65535: END_CASE;", "CASE d OF -2147483648..-1, 0..2147483647: END_CASE;", "CASE a OF 1: CASE a OF 1: END_CASE; 2: CASE a OF 1: END_CASE; END_CASE;", "CASE 1 OF 70000: END_CASE;")
	refuseIn(t,
		wrong{"^CASE a OF 32768: EXIT; END_CASE;", api.ErrRange}, wrong{"^CASE a OF 1, 2..32768: END_CASE;", api.ErrRange}, wrong{"^CASE a OF -32769..5: END_CASE;", api.ErrRange}, wrong{"^CASE w OF -1: END_CASE;", api.ErrRange}, wrong{"^CASE w OF 65536: END_CASE;", api.ErrRange}, wrong{"^CASE d OF 2147483648: END_CASE;", api.ErrRange}, wrong{"^CASE 1 OF -2147483649: END_CASE;", api.ErrRange}, wrong{"^CASE a OF -40000..40000: END_CASE;", api.ErrRange},
		wrong{"^CASE a OF 1, 1: EXIT; END_CASE;", api.ErrTwice}, wrong{"^CASE a OF 1: 2, 1: EXIT; END_CASE;", api.ErrTwice}, wrong{"^CASE a OF 1..5: 5: END_CASE;", api.ErrTwice}, wrong{"^CASE a OF 5: 1..5: END_CASE;", api.ErrTwice}, wrong{"^CASE a OF 3: 1..5: END_CASE;", api.ErrTwice}, wrong{"^CASE a OF 1..5: 3: END_CASE;", api.ErrTwice}, wrong{"^CASE a OF 1..5: 9: 4..7: END_CASE;", api.ErrTwice}, wrong{"^CASE a OF 4..7: 1..4: END_CASE;", api.ErrTwice}, wrong{"^CASE a OF 1..9: 3..4: END_CASE;", api.ErrTwice},
		wrong{"^CASE a OF 1: 1, 40000: END_CASE;", api.ErrTwice}, wrong{"^CASE a OF 1: 40000, 1: END_CASE;", api.ErrRange}, wrong{"^CASE a OF 30000: 30000..40000: END_CASE;", api.ErrRange},
	)
}

func TestFor(t *testing.T) {
	accept(t, "FOR a := 1 TO 9 DO END_FOR;", "FOR d := 70000 TO 70009 BY 3 DO END_FOR;", "FOR a := -32768 TO -32760 DO END_FOR;", "FOR a := 32760 TO 32767 BY 9 DO END_FOR;", "FOR a := 5 TO -40000 DO END_FOR;", "FOR a := 32767 TO -4294967295 DO END_FOR;", "FOR d := 2147483647 TO 2147483647 DO END_FOR;")
	refuseIn(t,
		wrong{"^FOR none := 1 TO 2 DO EXIT; END_FOR;", api.ErrName}, wrong{"^FOR y := 1 TO 2 DO END_FOR;", api.ErrKind}, wrong{"^FOR t := 1 TO 2 DO END_FOR;", api.ErrKind}, wrong{"^FOR w := 1 TO 2 DO END_FOR;", api.ErrKind}, wrong{"^FOR b := 0 TO 1 DO END_FOR;", api.ErrKind}, wrong{"^FOR z := 70000 TO 70001 DO END_FOR;", api.ErrKind}, wrong{"^FOR gt := 0 TO 1 DO END_FOR;", api.ErrKind}, wrong{"^FOR p := 1 TO 2 DO END_FOR;", api.ErrName},
		wrong{"^FOR k := 70000 TO 70001 DO END_FOR;", api.ErrWrite}, wrong{"^FOR gf := 1 TO 2 DO END_FOR;", api.ErrWrite}, wrong{"^FOR gm := 1 TO 2 DO END_FOR;", api.ErrWrite}, wrong{"FOR a := 1 TO 2 DO ^FOR a := 70000 TO 70001 DO END_FOR; END_FOR;", api.ErrWrite}, wrong{"FOR a := 1 TO 2 DO FOR c := 1 TO 2 DO IF b THEN ^FOR a := 1 TO 2 DO END_FOR; END_IF; END_FOR; END_FOR;", api.ErrWrite},
		wrong{"^FOR a := 32760 TO 32768 DO EXIT; d := none; END_FOR;", api.ErrRange}, wrong{"^FOR a := 32768 TO 5 DO END_FOR;", api.ErrRange}, wrong{"^FOR a := -32769 TO -32760 DO END_FOR;", api.ErrRange}, wrong{"^FOR a := -32769 TO -32770 DO END_FOR;", api.ErrRange}, wrong{"^FOR a := 32768 TO 32768 DO END_FOR;", api.ErrRange}, wrong{"^FOR d := 2147483640 TO 2147483648 DO END_FOR;", api.ErrRange}, wrong{"^FOR d := -2147483649 TO -2147483640 DO END_FOR;", api.ErrRange},
	)
	refuse(t, 0,
		wrong{"FUNCTION_BLOCK f VAR_INPUT x : INT; END_VAR ^FOR x := 1 TO 2 DO END_FOR; END_FUNCTION_BLOCK", api.ErrWrite},
		wrong{"FUNCTION_BLOCK f VAR_OUTPUT x : INT; END_VAR ^FOR x := 1 TO 2 DO END_FOR; END_FUNCTION_BLOCK", api.ErrWrite},
		wrong{"FUNCTION f : INT VAR_INPUT x : INT; END_VAR ^FOR x := 1 TO 2 DO END_FOR; END_FUNCTION", api.ErrWrite},
	)
}

func TestLoops(t *testing.T) {
	accept(t, "RETURN;", "IF b THEN RETURN; END_IF;", "FOR a := 1 TO 2 DO RETURN; END_FOR;")
	for _, word := range []string{"EXIT", "CONTINUE"} {
		for _, loop := range []string{"FOR a := 1 TO 2 DO %s END_FOR;", "WHILE b MAX 1 DO %s END_WHILE;", "REPEAT %s UNTIL b MAX 1 END_REPEAT;"} {
			accept(t, fmt.Sprintf(loop, word+";"), fmt.Sprintf(loop, "IF b THEN "+word+"; ELSE CASE a OF 1: "+word+"; END_CASE; END_IF;"), fmt.Sprintf(loop, "REPEAT UNTIL b MAX 1 END_REPEAT; "+word+";"))
			refuseIn(t, wrong{fmt.Sprintf(loop, "") + " ^" + word + ";", api.ErrLoop}, wrong{fmt.Sprintf(loop, "EXIT;") + " ^" + word + ";", api.ErrLoop})
		}
		refuseIn(t, wrong{"^" + word + ";", api.ErrLoop}, wrong{"IF b THEN ^" + word + "; END_IF;", api.ErrLoop}, wrong{"CASE a OF 1: ELSE ^" + word + "; END_CASE;", api.ErrLoop})
	}
	// a loop of one unit is none of the next
	refuse(t, 1, wrong{"PROGRAM p VAR a : INT; END_VAR FOR a := 1 TO 2 DO EXIT; END_FOR; END_PROGRAM PROGRAM q VAR a : INT; END_VAR a := 1; ^EXIT; END_PROGRAM", api.ErrLoop})
}
