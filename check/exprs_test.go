package check_test

import (
	"fmt"
	"strings"
	"testing"

	"plantwright/api"
)

// The chapter's examples.
func TestExamples(t *testing.T) {
	kinds(t,
		right{"a := 1 + 2;", "1(1:i 2:i):i"},
		right{"d := int_to_dint(a) + 70000;", "1(int_to_dint(a:i):d 70000:d):d"},
		right{"a := max(3, a);", "max(3:i a:i):i"},
	)
	refuseIn(t,
		wrong{"d := ^a;", api.ErrKind},
		wrong{"a := a + ^70000;", api.ErrRange},
		wrong{"w := ^-w;", api.ErrKind},
	)
	us := checked(t, program("IF 1 < 2 THEN END_IF;"))
	if got := told(us[unitsAhead].Body[0].Arms[0].E); got != "11(1:d 2:d):b" {
		t.Error(got)
	}
}

func TestLiterals(t *testing.T) {
	kinds(t,
		right{"a := -32768;", "-32768:i"}, right{"a := 32767;", "32767:i"},
		right{"d := -2147483648;", "-2147483648:d"}, right{"d := 2147483647;", "2147483647:d"},
		right{"w := 0;", "0:w"}, right{"w := 65535;", "65535:w"},
		right{"b := TRUE;", "1:b"}, right{"z := T#1s;", "1000:t"},
	)
	refuseIn(t,
		wrong{"a := ^32768;", api.ErrRange}, wrong{"a := ^-32769;", api.ErrRange},
		wrong{"d := ^2147483648;", api.ErrRange}, wrong{"d := ^-2147483649;", api.ErrRange},
		wrong{"w := ^-1;", api.ErrRange}, wrong{"w := ^65536;", api.ErrRange},
		wrong{"b := ^1;", api.ErrKind}, wrong{"b := ^4294967295;", api.ErrKind},
		wrong{"z := ^1;", api.ErrKind}, wrong{"z := ^-1;", api.ErrKind},
		wrong{"a := ^TRUE;", api.ErrKind}, wrong{"w := ^FALSE;", api.ErrKind}, wrong{"z := ^TRUE;", api.ErrKind},
		wrong{"a := ^T#1s;", api.ErrKind}, wrong{"b := ^T#0ms;", api.ErrKind}, wrong{"d := ^T#1s;", api.ErrKind},
		wrong{"b := 1 < ^2147483648;", api.ErrRange}, wrong{"b := ^4294967295 = 1;", api.ErrRange},
		wrong{"y[^2147483648] := 1;", api.ErrRange},
	)
}

func TestNames(t *testing.T) {
	kinds(t,
		right{"a := k;", "k:i"}, right{"d := gm;", "gm:d"}, right{"w := gs;", "gs:w"}, right{"a := gf;", "gf:i"},
		right{"a := y[3];", "y[3:d]:i"}, right{"a := y[a];", "y[a:i]:i"}, right{"d := yd[d];", "yd[d:d]:d"}, right{"w := ky[y[0]];", "ky[y[0:d]:i]:w"},
		right{"b := t.q;", "t.q:b"}, right{"z := t.et;", "t.et:t"}, right{"d := u.r;", "u.r:d"}, right{"b := u.f;", "u.f:b"}, right{"a := v.cv;", "v.cv:i"},
	)
	refuseIn(t,
		wrong{"a := ^none;", api.ErrName}, wrong{"a := ^p;", api.ErrName}, wrong{"a := ^twice;", api.ErrName}, wrong{"b := ^ton;", api.ErrName},
		wrong{"a := ^y;", api.ErrKind}, wrong{"b := ^t;", api.ErrKind}, wrong{"b := ^u;", api.ErrKind},
		wrong{"a := ^none[none];", api.ErrName}, wrong{"a := ^a[none];", api.ErrKind}, wrong{"b := ^t[none];", api.ErrKind},
		wrong{"a := y[^none];", api.ErrName}, wrong{"a := y[^b];", api.ErrKind}, wrong{"a := y[^w];", api.ErrKind}, wrong{"a := y[^z];", api.ErrKind}, wrong{"a := y[a ^< 1];", api.ErrKind},
		wrong{"b := ^none.q;", api.ErrName}, wrong{"b := ^a.q;", api.ErrKind}, wrong{"b := ^y.q;", api.ErrKind}, wrong{"b := ^ton.q;", api.ErrName},
		wrong{"b := ^t.in;", api.ErrName}, wrong{"b := ^t.run;", api.ErrName}, wrong{"b := ^t.x;", api.ErrName},
		wrong{"a := ^u.n;", api.ErrName}, wrong{"a := ^u.own;", api.ErrName}, wrong{"a := ^u.kept;", api.ErrName}, wrong{"b := ^u.q;", api.ErrName},
	)
}

// globals are seen by those alone that declare them.
func TestGlobalsAreDeclared(t *testing.T) {
	refuse(t, 0, wrong{"PROGRAM p VAR a : INT; END_VAR a := ^gf; END_PROGRAM", api.ErrName}, wrong{"PROGRAM p ^gm := 1; END_PROGRAM", api.ErrName})
}

func TestOwnNameOfFunction(t *testing.T) {
	us := checked(t, "FUNCTION f : DINT VAR d : DINT; END_VAR f := f + 1; FOR f := 1 TO 3 DO d := f; END_FOR; END_FUNCTION")
	if got := toldAll(us[0].Body[0].E); got != "1(f:d 1:d):d" {
		t.Error(got)
	}
	refuse(t, 0,
		wrong{"FUNCTION f : DINT VAR_INPUT x : DINT; END_VAR f := ^f(x); END_FUNCTION", api.ErrName},
		wrong{"FUNCTION f : DINT ^f(); END_FUNCTION", api.ErrKind},
		wrong{"FUNCTION f : DINT ^f[1] := 2; END_FUNCTION", api.ErrKind},
		wrong{"FUNCTION f : BOOL f := ^1; END_FUNCTION", api.ErrKind},
		wrong{"PROGRAM f VAR x : INT; END_VAR x := ^f; END_PROGRAM", api.ErrName},
		wrong{"FUNCTION_BLOCK f ^f := 1; END_FUNCTION_BLOCK", api.ErrName},
	)
}

func TestUnary(t *testing.T) {
	kinds(t,
		right{"a := -a;", "22(a:i):i"}, right{"d := -(5);", "22(5:d):d"}, right{"a := -(-(5));", "22(22(5:i):i):i"}, right{"d := -(1 + 2);", "22(1(1:d 2:d):d):d"},
		right{"b := NOT b;", "21(b:b):b"}, right{"w := NOT 5;", "21(5:w):w"}, right{"w := NOT w;", "21(w:w):w"}, right{"b := NOT (1 < 2);", "21(11(1:d 2:d):b):b"},
		right{"b := -(5) < 3;", "11(22(5:d):d 3:d):b"},
	)
	refuseIn(t,
		wrong{"b := ^-b;", api.ErrKind}, wrong{"z := ^-z;", api.ErrKind}, wrong{"w := ^-(5);", api.ErrKind}, wrong{"z := -(^5);", api.ErrKind},
		wrong{"a := ^NOT a;", api.ErrKind}, wrong{"a := ^NOT 5;", api.ErrKind}, wrong{"b := NOT ^5;", api.ErrKind}, wrong{"z := ^NOT z;", api.ErrKind}, wrong{"b := ^NOT z;", api.ErrKind},
		wrong{"a := -^none;", api.ErrName}, wrong{"b := NOT ^none;", api.ErrName}, wrong{"a := -(^40000);", api.ErrRange}, wrong{"y[-(^4294967295)] := 1;", api.ErrRange}, wrong{"y[^NOT 5] := 1;", api.ErrKind},
	)
}

// kindsOfOps is the chapter's table of operations (P1.3), of those that stand between two operands.
var kindsOfOps = []struct{ ops, kinds, result string }{
	{"+ -", "idt", ""}, {"* / MOD", "id", ""}, {"AND OR XOR &", "bw", ""}, {"= <>", "bidwt", "b"}, {"< <= > >=", "idwt", "b"},
}

var varOf = map[string]string{"b": "b", "i": "a", "d": "d", "w": "w", "t": "z"}

func TestOperationsOfKinds(t *testing.T) {
	for _, row := range kindsOfOps {
		for _, op := range strings.Fields(row.ops) {
			for kind, name := range varOf {
				result := row.result
				if result == "" {
					result = kind
				}
				text := fmt.Sprintf("%s := %s ^%s %s;", varOf[result], name, op, name)
				if strings.Contains(row.kinds, kind) {
					accept(t, strings.Replace(text, "^", "", 1))
				} else {
					refuseIn(t, wrong{text, api.ErrKind})
				}
			}
			for x, first := range varOf {
				for y, second := range varOf {
					if x != y {
						refuseIn(t, wrong{fmt.Sprintf("%s := %s ^%s %s;", first, first, op, second), api.ErrKind})
					}
				}
			}
		}
	}
}

// Those that are not bare are looked at first, whichever side they stand on; bare ones have their kind.
func TestBareOperands(t *testing.T) {
	kinds(t,
		right{"a := 1 + a;", "1(1:i a:i):i"}, right{"a := a + 1;", "1(a:i 1:i):i"}, right{"b := 70000 > d;", "13(70000:d d:d):b"}, right{"b := 65535 = w;", "9(65535:w w:w):b"},
		right{"w := 16#F0 OR w;", "7(240:w w:w):w"}, right{"w := 1 AND 2;", "6(1:w 2:w):w"}, right{"d := 1 + 2 * 3 - 4 / 5 MOD 6;", "2(1(1:d 3(2:d 3:d):d):d 5(4(4:d 5:d):d 6:d):d):d"},
		right{"b := (1 + 2) * 3 < a;", "11(3(1(1:i 2:i):i 3:i):i a:i):b"}, right{"b := -(7) MOD 2 = d;", "9(5(22(7:d):d 2:d):d d:d):b"},
		right{"a := 1 + 2 + a;", "1(1(1:i 2:i):i a:i):i"}, right{"a := a + 1 + 2;", "1(1(a:i 1:i):i 2:i):i"}, right{"a := 1 + (2 + a);", "1(1:i 1(2:i a:i):i):i"},
		right{"b := 1 < 2;", "11(1:d 2:d):b"}, right{"b := (1 = 2) = (3 < 4);", "9(9(1:d 2:d):b 11(3:d 4:d):b):b"}, right{"b := z + T#1s > T#5s;", "13(1(z:t 1000:t):t 5000:t):b"},
	)
	refuseIn(t,
		wrong{"w := 1 ^+ 2;", api.ErrKind}, wrong{"w := w + ^-1;", api.ErrRange}, wrong{"w := ^-1 OR w;", api.ErrRange}, wrong{"a := 1 ^AND 2;", api.ErrKind}, wrong{"b := ^1 AND 2;", api.ErrKind},
		wrong{"b := b AND ^1;", api.ErrKind}, wrong{"b := ^1 = b;", api.ErrKind}, wrong{"z := z + ^5;", api.ErrKind}, wrong{"z := ^5 + 6;", api.ErrKind}, wrong{"b := b AND (^1 + 2);", api.ErrKind},
		wrong{"b := ^40000 < a;", api.ErrRange}, wrong{"b := 1 + 2 + ^40000 = a;", api.ErrRange}, wrong{"a := 1 + ^40000 + 50000;", api.ErrRange}, wrong{"b := ^2147483648 < 2147483649;", api.ErrRange},
		wrong{"d := a ^+ 1;", api.ErrKind}, wrong{"b := 1 AND ^none;", api.ErrName}, wrong{"a := 40000 + ^none;", api.ErrName}, wrong{"a := ^none + none;", api.ErrName},
		// of unlike kinds: the bare ones are looked at ahead of that
		wrong{"a := a ^+ d;", api.ErrKind}, wrong{"a := a ^+ d + none;", api.ErrKind}, wrong{"a := a + (d + ^none);", api.ErrName}, wrong{"a := a ^+ (d + 40000);", api.ErrKind}, wrong{"b := a < (z + ^1);", api.ErrKind},
	)
}

// A bare operand takes the kind of the other one, not the one that is wanted; what is wanted goes on to the first one alone.
func TestWanted(t *testing.T) {
	refuseIn(t,
		wrong{"a := d ^+ 1;", api.ErrKind}, wrong{"a := 1 ^+ d;", api.ErrKind}, wrong{"d := ^70000 + a;", api.ErrRange}, wrong{"a := sel(b, ^70000, 1) + d;", api.ErrRange},
	)
	kinds(t,
		right{"d := d + sel(b, 70000, 1);", "1(d:d sel(b:b 70000:d 1:d):d):d"},
		right{"b := a < sel(b, 1, 2);", "11(a:i sel(b:b 1:i 2:i):i):b"},
		right{"b := sel(b, 1, 2) < d;", "11(sel(b:b 1:d 2:d):d d:d):b"},
		right{"a := abs(5) + a;", "1(abs(5:i):i a:i):i"},
	)
	refuseIn(t,
		wrong{"b := sel(b, 1, 2) ^< a;", api.ErrKind}, // none is wanted: it is Dint
		wrong{"b := a < sel(b, ^40000, 2);", api.ErrRange},
		wrong{"b := abs(5) ^= a;", api.ErrKind},
	)
}
