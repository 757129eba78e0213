package source_test

import (
	"strings"
	"testing"

	"plantwright/api"
	"plantwright/source"
)

func TestBetweenTokens(t *testing.T) {
	want := []api.Unit{one(t, body("a := b - 1;"))}
	for _, s := range []string{
		"PROGRAM p a:=b-1;END_PROGRAM",
		"\tPROGRAM\np\r\na\t:=\rb - 1 ; END_PROGRAM \n\n",
		"(* one *)PROGRAM(**)p(* ( * ) // (* *)a := b (* \n *) - // *) (* c\n 1;END_PROGRAM// end",
		"// first\n// second\r\nPROGRAM p a := b - 1; END_PROGRAM//",
		"PROGRAM p a := b -// line ends by the byte 13\r1; END_PROGRAM",
		"program P A := B - 1; end_program", "Program p a := b - 1; eND_pROGRAM",
	} {
		if l, f := source.Parse(s); f != (api.Fault{}) || !alike(l, want) {
			t.Errorf("Parse(%q): %v, %v", s, l, f)
		}
	}
	refuse(t, 0, []wrong{
		{"^", api.ErrText}, {" \n ^", api.ErrText}, {"// PROGRAM^", api.ErrText}, {"(* PROGRAM *)^", api.ErrText},
		{"^(*", api.ErrText}, {"^(*)", api.ErrText}, {" ^(* PROGRAM p * )", api.ErrText}, {"PROGRAM^(* p", api.ErrText},
		{"PROGRAM p a := 1 *^) END_PROGRAM", api.ErrText}, {"PROGRAM p (* (* *) ^*) END_PROGRAM", api.ErrText},
		{"^\x0bPROGRAM p END_PROGRAM", api.ErrText}, {"PROGRAM ^\xa0p END_PROGRAM", api.ErrText}, {"PROGRAM p // \r^) \n END_PROGRAM", api.ErrText},
	})
	refuse(t, 1, []wrong{{"PROGRAM p END_PROGRAM ^(* no end", api.ErrText}, {"PROGRAM p END_PROGRAM ^*)", api.ErrText}})
}

// A comment may have any bytes in it but those that end it.
func TestCommentBytes(t *testing.T) {
	for c := range 256 {
		s := string([]byte{'x', byte(c), 'y', byte(c)})
		accept(t, "(*"+s+"*) (*"+s+"*) a := 1;", "//"+strings.NewReplacer("\n", "", "\r", "").Replace(s)+"\n// \n//\r a := 1;")
	}
}

func TestStrangeBytes(t *testing.T) {
	for c := range 256 {
		s := body("a " + string([]byte{byte(c)}) + " := 1;")
		_, f := source.Parse(s)
		blank := c == 9 || c == 10 || c == 13 || c == 32
		want := api.Fault{Code: api.ErrText, At: strings.Index(s, "a ") + 2}
		if strings.Contains("[(", string(rune(c))) {
			want.At += 2
		}
		if blank {
			want = api.Fault{}
		}
		if f != want {
			t.Errorf("byte %d: %v, not %v", c, f, want)
		}
	}
	refuseIn(t, []wrong{{"^%1 := 1;", api.ErrText}, {"a := ^%1;", api.ErrText}, {"a := b^#1;", api.ErrText}, {"^é := 1;", api.ErrText}, {"a^é := 1;", api.ErrText}, {"^ſ := 1;", api.ErrText}, {"a := 1 ^! 2;", api.ErrText}, {"a := ^'x';", api.ErrText}, {"a := ^\x00;", api.ErrText}})
}

func TestWords(t *testing.T) {
	long := strings.Repeat("n", api.MaxName)
	u := one(t, body("_ := AzZa_09; "+strings.ToUpper(long)+" := t + tim + timex + t1;"))
	if u.Body[0].Name != "_" || u.Body[0].E[0].Name != "azza_09" || u.Body[1].Name != long {
		t.Errorf("names: %q, %q, %q", u.Body[0].Name, u.Body[0].E[0].Name, u.Body[1].Name)
	}
	refuseIn(t, []wrong{
		{"^" + long + "n := 1;", api.ErrLong}, {"a := ^" + long + "n;", api.ErrLong}, {"a := 1 ^" + long + "n;", api.ErrLong},
		{"a := 2 ^b " + long + "n;", api.ErrText}, {"^" + strings.Repeat("_", 1000) + " := 1;", api.ErrLong},
	})
}

// reserved: the words of the document, which are no names.
const reserved = "program end_program function end_function function_block end_function_block var var_input var_output var_external retain end_var array of bool int dint word time if then elsif else end_if case end_case for to by do end_for while max end_while repeat until end_repeat exit continue return or xor and mod not true false ladder end_ladder rung diagram end_diagram prev"

func TestReserved(t *testing.T) {
	for _, w := range strings.Fields(reserved) {
		refuse(t, 0, []wrong{
			{"PROGRAM ^" + w + " END_PROGRAM", api.ErrText},
			{"PROGRAM p VAR a, ^" + strings.ToUpper(w) + " : INT; END_VAR END_PROGRAM", api.ErrText},
			{"PROGRAM p a := b.^" + w + "; END_PROGRAM", api.ErrText},
			{"PROGRAM p a(^" + w + " := 1); END_PROGRAM", api.ErrText},
			{"PROGRAM p FOR ^" + w + " := 1 TO 2 DO END_FOR; END_PROGRAM", api.ErrText},
		})
		accept(t, w+"_ := _"+w+" + y"+w+";")
		u := one(t, body("a := b;"))
		u.Body[0].Name = w
		if source.May(u) {
			t.Errorf("%s may be a name", w)
		}
	}
}

func TestNumbers(t *testing.T) {
	for s, n := range map[string]int{
		"0": 0, "007": 7, "1_000": 1000, "4294967295": 4294967295, "16#FfFf_fFfF": 4294967295, "16#0": 0, "2#1011": 11,
		"2#11111111_11111111_11111111_11111111": 4294967295, strings.Repeat("0", api.MaxLiteral-1) + "9": 9, "16#a_b": 171, "65536": 65536,
	} {
		e, end, f := source.Expression(s, 0)
		if e.Form != api.Lit || e.Kind != api.None || e.N != n || end != len(s) || f != (api.Fault{}) {
			t.Errorf("%s: %s, %d, %v", s, told(e), end, f)
		}
	}
	for s, code := range map[string]api.Errno{
		"1_": api.ErrText, "1__0": api.ErrText, "0x10": api.ErrText, "12ab": api.ErrText, "16#": api.ErrText, "16#G": api.ErrText, "2#2": api.ErrText, "8#7": api.ErrText,
		"1#0": api.ErrText, "16#_1": api.ErrText, "1_6#1": api.ErrText, "016#1": api.ErrText, "16##1": api.ErrText, "5s": api.ErrText, "1e3": api.ErrText, "1#": api.ErrText,
		strings.Repeat("0", api.MaxLiteral+1): api.ErrLong, strings.Repeat("9", api.MaxLiteral+1): api.ErrLong, "1" + strings.Repeat("z", api.MaxLiteral): api.ErrLong,
		"4294967296": api.ErrRange, "16#100000000": api.ErrRange, strings.Repeat("9", api.MaxLiteral): api.ErrRange, "9223372036854775808": api.ErrRange, "18446744073709551617": api.ErrRange,
		"16#" + strings.Repeat("F", 37): api.ErrRange, "2#1" + strings.Repeat("0", 32): api.ErrRange, "4_294_967_296": api.ErrRange,
	} {
		refuseIn(t, []wrong{{"a := ^" + s + ";", code}, {"a := -^" + s + ";", code}, {"a := 1 ^" + s + ";", code}, {"CASE a OF ^" + s + ": END_CASE;", code}, {"VAR a : INT := -^" + s + "; END_VAR", code}})
	}
}

func TestTimes(t *testing.T) {
	for s, n := range map[string]int{"T#5s": 5000, "t#1M30S": 90000, "TIME#1d": 86400000, "time#1_0ms": 10, "T#49d17h2m47s295ms": 4294967295, "Time#0ms": 0} {
		e, end, f := source.Expression(s, 0)
		if e.Form != api.Lit || e.Kind != api.Time || e.N != n || end != len(s) || f != (api.Fault{}) {
			t.Errorf("%s: %s, %d, %v", s, told(e), end, f)
		}
	}
	for s, code := range map[string]api.Errno{
		"T#": api.ErrText, "T#5": api.ErrText, "T#5x": api.ErrText, "T#1s1m": api.ErrText, "T##5s": api.ErrText, "TIME#s": api.ErrText, "T#5s_": api.ErrText,
		"T#" + strings.Repeat("0", api.MaxLiteral) + "s": api.ErrLong, "T#49d17h2m47s296ms": api.ErrRange, "T#4294967296ms": api.ErrRange,
	} {
		refuseIn(t, []wrong{{"a := ^" + s + ";", code}, {"a := 1 ^" + s + ";", code}, {"VAR a : TIME := ^" + s + "; END_VAR", code}})
	}
	refuseIn(t, []wrong{{"a := t ^# 5s;", api.ErrText}, {"a := t ^#5s;", api.ErrText}, {"a := ^time;", api.ErrText}, {"a := ti^#5s;", api.ErrText}, {"a := xt^#5s;", api.ErrText}, {"a := T#5s^.1;", api.ErrText}, {"^T#5s := a;", api.ErrText}})
}

func TestSigns(t *testing.T) {
	accept(t, "a:=b<=c;a:=b>=c;a:=b<>c;x(a:=b,c=>d);", "CASE a OF 1..2:END_CASE;", "a := b < -c;", "a := b > -(c);")
	refuseIn(t, []wrong{
		{"a ^: = 1;", api.ErrText}, {"a := b < ^= c;", api.ErrText}, {"a := b <> ^= c;", api.ErrText}, {"a := b = ^> c;", api.ErrText}, {"a := b ^=> c;", api.ErrText},
		{"CASE a OF 1 ^. . 2: END_CASE;", api.ErrText}, {"CASE a OF 1..^.2: END_CASE;", api.ErrText}, {"a := b^..c;", api.ErrText}, {"a ^:: 1;", api.ErrText},
		{"a := b * ^* c;", api.ErrText}, {"a := b ^:= c;", api.ErrText}, {"a := b = ^= c;", api.ErrText}, {"a := b > ^< c;", api.ErrText}, {"a := b <= ^> c;", api.ErrText},
	})
}
