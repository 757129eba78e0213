package ladder_test

import (
	"strings"
	"testing"

	"plantwright/api"
	"plantwright/ladder"
)

func TestTextFaults(t *testing.T) {
	refuse(t, api.ErrText,
		"^", " \n^", "// LADDER^", "^l", "^PROGRAM l END_PROGRAM", "^DIAGRAM l END_DIAGRAM", "^RUNG [a] => a;", "^END_LADDER", "^[a]", "LADDER^", "LADDER ^;", "LADDER ^END_LADDER", "LADDER ^rung END_LADDER", "LADDER ^max END_LADDER", "LADDER ^1 END_LADDER",
		"LADDER l^", "LADDER l ^l END_LADDER", "LADDER l ^: BOOL END_LADDER", "LADDER l ^; END_LADDER", "LADDER l ^END_PROGRAM", "LADDER l ^END_RUNG", "LADDER l ^LADDER k END_LADDER END_LADDER", "LADDER l ^a := b; END_LADDER", "LADDER l^.m END_LADDER",
		"LADDER l END_LADDER ^x", "LADDER l END_LADDER^;", "LADDER l END_LADDER ^LADDER m END_LADDER", "LADDER l END_LADDER ^END_LADDER", "LADDER l END_LADDER ^RUNG [a] => a;", "LADDER l RUNG [a] => a; END_LADDER ^x", "LADDER l RUNG [a] => a; ^END_PROGRAM",
		"LADDER l RUNG [a] => a;^", "LADDER l RUNG [a] => a; ^VAR b : BOOL; END_VAR END_LADDER", "LADDER l RUNG [a] => a; ^[a] => a; END_LADDER", "LADDER l RUNG [a] => a;^; END_LADDER", "LADDER l RUNG [a] => a; ^a := b; END_LADDER",
	)
}

func TestHeadFaults(t *testing.T) {
	refuse(t, api.ErrText, "LADDER l VAR a : BOOL ^END_VAR END_LADDER", "LADDER l VAR ^RUNG", "LADDER l VAR a : ^; END_VAR RUNG", "LADDER l ^RETAIN a : INT; END_VAR", "LADDER l VAR_INPUT ^RETAIN", "LADDER l VAR END_VAR^", "LADDER l VAR END_VAR ^END_VAR", "LADDER l VAR ^%0 : BOOL; END_VAR END_LADDER")
	refuse(t, api.ErrRange, "LADDER l VAR a : ARRAY[2..^1] OF BOOL; END_VAR END_LADDER", "LADDER l VAR a : INT := ^4294967296; END_VAR END_LADDER")
	refuse(t, api.ErrSize, "LADDER l VAR "+names(api.MaxVars)+", ^v : BOOL; END_VAR END_LADDER", "LADDER l VAR "+names(150)+" : BOOL; END_VAR VAR_EXTERNAL "+names(50)+" : BOOL; ^v %")
}

func TestRungFaults(t *testing.T) {
	refuseIn(t, api.ErrText,
		"RUNG ^=> a;", "RUNG ^a => a;", "RUNG ^; RUNG", "RUNG ^END_LADDER", "RUNG [a] ^END_LADDER", "RUNG [a] ^;", "RUNG [a] ^:= a;", "RUNG [a] ^= > a;", "RUNG [a] ^, [b] => a;", "RUNG [a] ^b => a;", "RUNG [a] ^/ [b] => a;", "RUNG [a] ^OR [b] => a;", "RUNG ^NOT [a] => a;", "RUNG ^/[a] => a;", "RUNG [a] ^RUNG [a] => a;", "RUNG [a] ^) => a;",
		"RUNG (^) => a;", "RUNG (^, [a]) => a;", "RUNG ([a],^) => a;", "RUNG ([a] ^=> a;", "RUNG ([a] ^; [b]) => a;", "RUNG ([a])^) => a;", "RUNG ([a], ^=> a;", "RUNG (^a) => a;", "RUNG ([a], ([b]) ^=> a;", "RUNG ([a]^] => a;", "RUNG ((^) [a]) => a;",
	)
}

func TestContactFaults(t *testing.T) {
	refuseIn(t, api.ErrText,
		"RUNG [^] => a;", "RUNG [a ^=> a;", "RUNG [a^) => a;", "RUNG [a ^b] => a;", "RUNG [a^, b] => a;", "RUNG [^[a]] => a;", "RUNG [^(a)] => a;", "RUNG [^1] => a;", "RUNG [^TRUE] => a;", "RUNG [^T#1s] => a;", "RUNG [^NOT a] => a;", "RUNG [^int] => a;", "RUNG [^max] => a;",
		"RUNG [a^[1]] => a;", "RUNG [a.b^.c] => a;", "RUNG [a.^] => a;", "RUNG [a.^1] => a;", "RUNG [a^..b] => a;", "RUNG [a.^var] => a;", "RUNG [a^(b)] => a;", "RUNG [a ^AND b] => a;", "RUNG [a.b ^c] => a;",
		"RUNG [^+a] => a;", "RUNG [^-a] => a;", "RUNG [^=a] => a;", "RUNG [^*a] => a;", "RUNG [^>=a] => a;", "RUNG [^<=a] => a;", "RUNG [^<>a] => a;", "RUNG [^=>a] => a;",
		"RUNG [/^] => a;", "RUNG [>^] => a;", "RUNG [<^] => a;", "RUNG [a^/] => a;", "RUNG [a^>] => a;", "RUNG [/^1] => a;", "RUNG [>^max] => a;",
	)
}

// A contact has one sign at most, whichever it is and whatever stands between.
func TestContactWithTwoSigns(t *testing.T) {
	for _, first := range []string{"/", ">", "<"} {
		for _, second := range []string{"/", ">", "<"} {
			if first+second == "//" || first+second == "<>" { // a comment; a sign of its own
				continue
			}
			refuseIn(t, api.ErrText, "RUNG ["+first+"^"+second+"a] => a;", "RUNG ([b], ["+first+"^"+second+" t.q]) => a;")
		}
		for _, second := range []string{"/", ">", "<"} {
			refuseIn(t, api.ErrText, "RUNG ["+first+" ^"+second+"a] => a;", "RUNG ["+first+"(* c *)^"+second+" a] => a;")
		}
	}
	refuse(t, api.ErrText, "LADDER l RUNG [/^>a] => a; END_LADDER")
	refuseIn(t, api.ErrText, "RUNG [^<>a] => a;", "RUNG [//a] => a;\n^=> a;", "RUNG [/ ^/>a] => a;")
}

func TestCoilFaults(t *testing.T) {
	refuseIn(t, api.ErrText,
		"RUNG [a] =>^; RUNG", "RUNG [a] => ^, a;", "RUNG [a] => a,^;", "RUNG [a] => a ^b;", "RUNG [a] => a ^RUNG [a] => b;", "RUNG [a] => a ^END_LADDER", "RUNG [a] => ^(a);", "RUNG [a] => ^[a];", "RUNG [a] => ^1;", "RUNG [a] => ^TRUE;", "RUNG [a] => ^NOT a;", "RUNG [a] => ^max;", "RUNG [a] => ^max(a);", "RUNG [a] => ^END_LADDER", "RUNG [a] => a ^=> b;",
		"RUNG [a] => ^<a;", "RUNG [a] => ^*a;", "RUNG [a] => ^=a;", "RUNG [a] => ^>=a;", "RUNG [a] => ^<>a;", "RUNG [a] =>^=>a;", "RUNG [a] => ^& a;",
		"RUNG [a] => /^;", "RUNG [a] => +^;", "RUNG [a] => -^, a;", "RUNG [a] => >^(a);", "RUNG [a] => /^1;", "RUNG [a] => -^1;", "RUNG [a] => +^var;", "RUNG [a] => / ^/ a;", "RUNG [a] => +^-a;", "RUNG [a] => /^>a;", "RUNG [a] => >^/a;", "RUNG [a] => -^-a;",
		"RUNG [a] => a^.b;", "RUNG [a] => a^[1];", "RUNG [a] => a ^:= b;", "RUNG [a] => /a^.b;", "RUNG [a] => /t^(in);", "RUNG [a] => +t^(in);", "RUNG [a] => -t^(in);", "RUNG [a] => >t^(in);", "RUNG [a] => a^/;",
	)
}

func TestArgFaults(t *testing.T) {
	refuseIn(t, api.ErrText,
		"RUNG [a] => t(^);", "RUNG [a] => t(^, pt := 1);", "RUNG [a] => t(^1);", "RUNG [a] => t(^/in);", "RUNG [a] => t(^max);", "RUNG [a] => t(in^;", "RUNG [a] => t(in ^b);", "RUNG [a] => t(in^.q);", "RUNG [a] => t(in ^:= a);", "RUNG [a] => t(in ^=> a);", "RUNG [a] => t(in,^);", "RUNG [a] => t(in)^(in);", "RUNG [a] => t(in) ^t(in);", "RUNG [a] => t(in^] ;",
		"RUNG [a] => t(in, pt^);", "RUNG [a] => t(in, pt^, a := 1);", "RUNG [a] => t(in, ^1);", "RUNG [a] => t(in, pt ^= 1);", "RUNG [a] => t(in, pt :=^);", "RUNG [a] => t(in, pt := 1^;", "RUNG [a] => t(in, pt := 1 ^2);", "RUNG [a] => t(in, pt := 1,^);", "RUNG [a] => t(in, pt := a +^);", "RUNG [a] => t(in, pt := (a^, b));", "RUNG [a] => t(in, pt := ^max);", "RUNG [a] => t(in, pt := f(^));", "RUNG [a] => t(in, pt := 1)^);",
		"RUNG [a] => t(in, q =>^);", "RUNG [a] => t(in, q => ^1);", "RUNG [a] => t(in, q => a^.b);", "RUNG [a] => t(in, q => a^[1]);", "RUNG [a] => t(in, q => a ^+ b);", "RUNG [a] => t(in, q => ^/a);", "RUNG [a] => t(in, ^/q => a);",
	)
	refuseIn(t, api.ErrSize, "RUNG [a] => t(in, pt := f(1, 2, 3, 4, 5, 6, 7, 8, ^9));", "RUNG [a] => t(in, pt := max(1, 2, 3, 4, 5, 6, 7, 8, ^-9 %")
}

// A token's own fault is told wherever it stands, ahead of what the grammar says of it.
func TestTokenFaults(t *testing.T) {
	long := strings.Repeat("x", api.MaxName+1)
	for text, code := range map[string]api.Errno{"%": api.ErrText, "#": api.ErrText, "(* c": api.ErrText, "1z": api.ErrText, "T#1": api.ErrText, long: api.ErrLong, "4294967296": api.ErrRange, "t#50d": api.ErrRange, strings.Repeat("0", 41): api.ErrLong} {
		refuse(t, code, "^"+text, "LADDER ^"+text, "LADDER l ^"+text, "LADDER l END_LADDER ^"+text, "LADDER l VAR ^"+text, "LADDER l VAR END_VAR ^"+text)
		refuseIn(t, code,
			"RUNG ^"+text, "RUNG [^"+text, "RUNG [/ ^"+text, "RUNG [a ^"+text, "RUNG [a. ^"+text, "RUNG [a.b ^"+text, "RUNG [a] ^"+text, "RUNG ( ^"+text, "RUNG ([a] ^"+text, "RUNG ([a], ^"+text, "RUNG ([a]) ^"+text,
			"RUNG [a] => ^"+text, "RUNG [a] => - ^"+text, "RUNG [a] => a ^"+text, "RUNG [a] => a, ^"+text, "RUNG [a] => a; ^"+text, "RUNG [a] => t( ^"+text, "RUNG [a] => t(in ^"+text, "RUNG [a] => t(in, ^"+text, "RUNG [a] => t(in, a ^"+text, "RUNG [a] => t(in, a := ^"+text, "RUNG [a] => t(in, a := b ^"+text, "RUNG [a] => t(in, a => ^"+text, "RUNG [a] => t(in, a => b ^"+text, "RUNG [a] => t(in) ^"+text,
		)
	}
}

func TestTextSize(t *testing.T) {
	s := "LADDER l RUNG [a] => a; END_LADDER"
	s += strings.Repeat(" ", api.MaxText-len(s))
	accept(t, s)
	for _, x := range []string{s + " ", " " + s, "%" + s, strings.Repeat("%", api.MaxText+1), strings.Repeat("(", 1000000)} {
		if u, f := ladder.Read(x); f != (api.Fault{Code: api.ErrSize}) || !isNothing(u) {
			t.Errorf("%d bytes: %v, %v", len(x), f, u)
		}
	}
	refuse(t, api.ErrText, "^"+strings.Repeat("%", api.MaxText))
}

func TestRungSizes(t *testing.T) {
	rungs := "LADDER l " + same(api.MaxRungs, " ", "RUNG [a] => m;")
	accept(t, rungs+" END_LADDER")
	refuse(t, api.ErrSize, rungs+" ^RUNG [a] => m; END_LADDER", rungs+" ^RUNG", rungs+" ^RUNG %")
	refuse(t, api.ErrText, rungs+" ^[a] => m; END_LADDER", rungs+" ^%")

	row := "RUNG " + same(api.MaxContacts, " ", "[a]")
	mixed := "RUNG (" + same(api.MaxContacts/4, ", ", "[a] ([/b], [t.q])") + ") " + same(api.MaxContacts/4, "", "[a]")
	accept(t, whole(row+" => m;"), whole(row+" => m; "+row+" => n;"), whole(mixed+" => m;"), whole("RUNG ("+same(api.MaxContacts, ", ", "[a]")+") => m;"))
	for _, s := range []string{row, mixed} {
		refuseIn(t, api.ErrSize, s+" ^[a] => m;", s+" ^[ %", s+" (^[a]) => m;", s+" ^[", s+" ^[1] => m;", s+" ^[>a] => m;", s+" ((^[a], [b])) => m;")
		refuseIn(t, api.ErrText, s+" ^a", s+" ^%", s+" (^) => m;")
	}
	refuseIn(t, api.ErrSize, row+" => m; "+row+" ^[a] => n;", "RUNG ("+same(api.MaxContacts, ", ", "[a]")+", ^[b]) => m;")

	coils := "RUNG [a] => " + many(api.MaxCoils, ", ", func(i int) string { return []string{"m", "/m", "+m", "-m", ">m", "t(in, q => m)"}[i%6] })
	accept(t, whole(coils+";"), whole(coils+"; "+coils+";"))
	for _, first := range []string{"m", "/m", "+m", "-m", ">m", "t(in)", "m %", "/ %", "> ;", "m.n"} {
		refuseIn(t, api.ErrSize, coils+", ^"+first+";", coils+"; "+coils+", ^"+first+";")
	}
	refuseIn(t, api.ErrText, coils+", ^;", coils+", ^[m];", coils+", ^%", coils+", ^max;", coils+" ^m;")
	refuseIn(t, api.ErrLong, coils+", ^"+strings.Repeat("m", 25)+";")
}

func TestArgSizes(t *testing.T) {
	args := "RUNG [a] => t(in, " + many(2*api.MaxArgs-1, ", ", func(i int) string { return []string{"a := 1", "b => c"}[i%2] })
	accept(t, whole(args+");"), whole(args+"), "+args[len("RUNG [a] => "):]+");"))
	refuseIn(t, api.ErrSize, args+", ^a := 1);", args+", ^a => b);", args+", ^a %", args+", ^a);", args+"), t(in), "+args[len("RUNG [a] => "):]+", ^a := 1);")
	refuseIn(t, api.ErrText, args+", ^1);", args+",^);", args+", ^%", args+"^;")
}

// vars: heads with so many variables.
func vars(n int) string {
	return "VAR " + names(n) + " : BOOL; END_VAR "
}

func TestVariableSizes(t *testing.T) {
	ladderOf := func(n int, s string) string { return "LADDER l " + vars(n) + s }
	most := api.MaxVars
	accept(t, ladderOf(most, "END_LADDER"), ladderOf(most-1, "RUNG [v1] [/v2] => v3, +v1; RUNG [v1] => v2; END_LADDER"), ladderOf(most-2, "RUNG [>v1] => v3; RUNG [v1] => v2; END_LADDER"), ladderOf(most-2, "RUNG [v1] => >v3; END_LADDER"), ladderOf(most-4, "RUNG [<v1] [v2] [>v4] => >v3; END_LADDER"))
	refuse(t, api.ErrSize,
		ladderOf(most, "^RUNG [v1] => v2; END_LADDER"), ladderOf(most, "^RUNG"), ladderOf(most, "^RUNG %"),
		ladderOf(most-1, "RUNG ^[>v1] => v2; END_LADDER"), ladderOf(most-1, "RUNG ^[<v1] => v2; END_LADDER"), ladderOf(most-1, "RUNG [v1] ^[< %"), ladderOf(most-1, "RUNG ([v1], ^[ (* c *) > (* no end"), ladderOf(most-1, "RUNG ^[> > v1] => v1;"),
		ladderOf(most-1, "RUNG [v1] => ^>v2; END_LADDER"), ladderOf(most-1, "RUNG [v1] => v1, ^> %"), ladderOf(most-1, "RUNG [v1] => v1; RUNG [v1] => v1, ^>"), ladderOf(most-1, "RUNG [v1] => ^> 1;"),
		ladderOf(most-2, "RUNG [>v1] ^[>v1] => v2; END_LADDER"), ladderOf(most-2, "RUNG [>v1] => ^>v2; END_LADDER"), ladderOf(most-2, "RUNG [v1] => >v2; RUNG ^[<v1] => v2; END_LADDER"),
	)
	refuse(t, api.ErrText,
		ladderOf(most, "^[v1]"), ladderOf(most-1, "RUNG [^>= v1] => v2;"), ladderOf(most-1, "RUNG [^%"), ladderOf(most-1, "RUNG [/^>v1] => v2;"), ladderOf(most-1, "RUNG [v1] => ^>= v2;"), ladderOf(most-1, "RUNG [v1] => /^>v2;"),
	)
	// 199 instances by contacts of four rungs alone.
	rung := "RUNG " + same(50, "", "[>a]") + " => m; "
	last := "RUNG " + same(49, "", "[<a]")
	accept(t, "LADDER l "+rung+rung+rung+last+" => m; END_LADDER")
	refuse(t, api.ErrSize, "LADDER l "+rung+rung+rung+last+" ^[>a] => m; END_LADDER", "LADDER l "+rung+rung+rung+last+" => m, ^>m; END_LADDER")
}

func TestDepth(t *testing.T) {
	open, shut := strings.Repeat("(", api.MaxNest), strings.Repeat(")", api.MaxNest)
	accept(t, whole("RUNG "+open+"[a]"+shut+" => m;"), whole("RUNG "+open+"[a], [b] [c]"+shut+open+"[a]"+shut+" => m;"), whole("RUNG ([a], ([b], "+open[2:]+"[/a]"+shut[2:]+")) => m; RUNG "+open+"[<a]"+shut+" => m;"))
	refuseIn(t, api.ErrDeep,
		"RUNG "+open+"(^[a])"+shut+" => m;", "RUNG "+open+"( ^[>a]", "RUNG "+open+"(^([a]))"+shut+" => m;", "RUNG "+open+"[a], (^[b])"+shut+" => m;", "RUNG "+open+"[a] [b] (^[b])"+shut+" => m;", "RUNG [a] "+open+"[b]"+shut+" "+open+"(^[c])"+shut+" => m;",
		"RUNG "+open+"(^[ %", "RUNG "+open+"(^((", "RUNG "+open+"( (* c *) ^[a]", "RUNG "+open+"(^[]", "RUNG [a] => m; RUNG "+open+"(^[",
	)
	refuseIn(t, api.ErrText, "RUNG "+open+"(^)", "RUNG "+open+"(^a", "RUNG "+open+"(^%", "RUNG "+open+"(^, [a]", "RUNG "+open+"[a](^;", "RUNG "+open+"(^(* no end")
	refuseIn(t, api.ErrLong, "RUNG "+open+"(^"+strings.Repeat("x", 25))
}

// Where one token is both too many and too deep, ErrSize is named first.
func TestSizeAheadOfDepth(t *testing.T) {
	deep := strings.Repeat("(", api.MaxNest+1)
	full := "RUNG " + same(api.MaxContacts, "", "[a]")
	refuseIn(t, api.ErrSize, full+deep+"^[a]", full+deep+"^[ %")
	refuseIn(t, api.ErrDeep, full+deep+"^([a])", full[:len(full)-3]+deep+"^[a]")
	refuse(t, api.ErrSize, "LADDER l "+vars(api.MaxVars-1)+"RUNG "+deep+"^[>v1]", "LADDER l "+vars(api.MaxVars-1)+"RUNG "+deep+"^[< %")
	refuse(t, api.ErrDeep, "LADDER l "+vars(api.MaxVars-1)+"RUNG "+deep+"^[/v1]", "LADDER l "+vars(api.MaxVars-1)+"RUNG "+deep+"^[(* c *)", "LADDER l "+vars(api.MaxVars-2)+"RUNG "+deep+"^[>v1]")
}

// An arg's expression is as deep as one of a statement of a unit's list.
func TestArgDepth(t *testing.T) {
	deepest := api.MaxDeep - 2
	open, shut := strings.Repeat("(", deepest), strings.Repeat(")", deepest)
	accept(t, whole("RUNG [a] => u(cu, pv := "+open+"1"+shut+");"), whole("RUNG [a] => u(cu, pv := "+strings.Repeat("NOT ", deepest)+"a);"))
	refuseIn(t, api.ErrDeep, "RUNG [a] => u(cu, pv := "+open+"(^1))"+shut+");", "RUNG [a] => u(cu, pv := "+open+"NOT ^a"+shut+");", "RUNG [a] => u(cu, pv := "+open+"f(^1"+shut+");")
	refuseIn(t, api.ErrText, "RUNG [a] => u(cu, pv := "+open+"(^))")
}

// Of several faults the first token's is told.
func TestFirstFault(t *testing.T) {
	full := "RUNG " + same(api.MaxContacts, "", "[a]")
	refuseIn(t, api.ErrText, "RUNG ^=> ; %", full+" ^% [a]", "RUNG [a] => t(in, b := ^, %)", "RUNG [a] => m ^n, "+strings.Repeat("x", 25))
	refuseIn(t, api.ErrSize, full+"^[%", full+"^[a] => ;")
	refuse(t, api.ErrText, "LADDER ^% "+vars(api.MaxVars+1), "LADDER l "+vars(api.MaxVars)+"^x RUNG")
	refuse(t, api.ErrSize, "LADDER l "+vars(api.MaxVars)+"^RUNG [a => %")
}
