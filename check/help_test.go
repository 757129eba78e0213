package check_test

import (
	"fmt"
	"strings"
	"testing"

	"plantwright/api"
	"plantwright/check"
	"plantwright/source"
)

// globals: one of each direction, and of each kind.
func globals() []api.Global {
	return []api.Global{
		{Name: "gf", Kind: api.Int, Dir: api.FromField},
		{Name: "gt", Kind: api.Bool, Dir: api.ToField},
		{Name: "gm", Kind: api.Dint, Dir: api.Memory},
		{Name: "gs", Kind: api.Word, Dir: api.Setting},
		{Name: "gz", Kind: api.Time, Dir: api.Memory},
	}
}

// ahead are the units that stand ahead of the one that is looked at: a function of two inputs, one of none, a block, a program.
const ahead = `
FUNCTION twice : INT VAR_INPUT x : INT; END_VAR twice := x + x; END_FUNCTION
FUNCTION mixed : WORD VAR_INPUT p : BOOL; q : DINT; r : TIME; END_VAR END_FUNCTION
FUNCTION alone : INT END_FUNCTION
FUNCTION_BLOCK fb VAR_INPUT n : INT; o : BOOL; END_VAR VAR_OUTPUT r : DINT; f : BOOL; END_VAR VAR own : INT; END_VAR VAR RETAIN kept : INT; END_VAR END_FUNCTION_BLOCK
PROGRAM before END_PROGRAM
`

// unitsAhead is how many units ahead has.
const unitsAhead = 5

// heads of a program with variables of all sorts.
const heads = `VAR_EXTERNAL gf : INT; gt : BOOL; gm : DINT; gs : WORD; gz : TIME; END_VAR
VAR a, c : INT; d, e : DINT; w : WORD; b : BOOL; z : TIME;
 y : ARRAY[0..3] OF INT; yd : ARRAY[-2..2] OF DINT; yb : ARRAY[1..1] OF BOOL; t : ton; u : fb; v : ctu; END_VAR
VAR RETAIN k : INT; kd : DINT; ky : ARRAY[0..3] OF WORD; END_VAR
`

func program(stmts string) string {
	return ahead + "PROGRAM p " + heads + stmts + " END_PROGRAM"
}

func parsed(t *testing.T, text string) []api.Unit {
	t.Helper()
	us, f := source.Parse(text)
	if f != (api.Fault{}) {
		t.Fatalf("Parse(%q): %v", text, f)
	}
	return us
}

// checked: the units of a text that is right.
func checked(t *testing.T, text string) []api.Unit {
	t.Helper()
	us := parsed(t, text)
	got, f := check.Check(us, globals())
	if f != (api.Fault{}) || len(got) != len(us) {
		t.Fatalf("%q: %d units of %d, %v", text, len(got), len(us), f)
	}
	return got
}

// wrong is a text with a ^ ahead of what is wrong.
type wrong struct {
	text string
	code api.Errno
}

func (w wrong) parts() (string, int) {
	at := strings.Index(w.text, "^")
	return w.text[:at] + w.text[at+1:], at
}

// refuse: are these texts refused, in the unit of that place?
func refuse(t *testing.T, unit int, l ...wrong) {
	t.Helper()
	for _, w := range l {
		s, at := w.parts()
		refused(t, parsed(t, s), globals(), api.Fault{Code: w.code, Unit: unit, At: at})
	}
}

// refuseIn: likewise, of statements of a program over the variables of heads.
func refuseIn(t *testing.T, l ...wrong) {
	t.Helper()
	for _, w := range l {
		refuse(t, unitsAhead, wrong{program(w.text), w.code})
	}
}

func refused(t *testing.T, us []api.Unit, gs []api.Global, want api.Fault) {
	t.Helper()
	if got, f := check.Check(us, gs); f != want || len(got) != 0 {
		last := ""
		if len(us) > 0 {
			last = source.Show(us[len(us)-1])
		}
		t.Errorf("%d units, %v, not %v, of %s", len(got), f, want, last)
	}
}

// accept: are these statements of a program right?
func accept(t *testing.T, l ...string) {
	t.Helper()
	for _, s := range l {
		if _, f := check.Check(parsed(t, program(s)), globals()); f != (api.Fault{}) {
			t.Errorf("%s: %v", s, f)
		}
	}
}

var letters = [...]string{api.None: "?", api.Bool: "b", api.Int: "i", api.Dint: "d", api.Word: "w", api.Time: "t"}

// told: an expression on one line, each part with its kind.
func told(e api.Expr) string {
	kind := ":" + letters[e.Kind]
	switch e.Form {
	case api.Lit:
		return fmt.Sprint(e.N) + kind
	case api.Part:
		return e.Name + "." + e.Part + kind
	case api.Un:
		return fmt.Sprintf("%d(%s)%s", e.Op, toldAll(e.Kids), kind)
	case api.Bin:
		return fmt.Sprintf("%d(%s)%s", e.Op, toldAll(e.Kids), kind)
	case api.Item:
		return e.Name + "[" + toldAll(e.Kids) + "]" + kind
	case api.Call:
		return e.Name + "(" + toldAll(e.Kids) + ")" + kind
	}
	return e.Name + kind
}

func toldAll(l []api.Expr) string {
	var out []string
	for _, e := range l {
		out = append(out, told(e))
	}
	return strings.Join(out, " ")
}

// right is a statement, and its expressions with their kinds.
type right struct {
	text string
	want string
}

// kinds: do the expressions of the first statement have these kinds?
func kinds(t *testing.T, l ...right) {
	t.Helper()
	for _, r := range l {
		us := checked(t, program(r.text))
		if got := toldAll(us[unitsAhead].Body[0].E); got != r.want {
			t.Errorf("%s: %s, not %s", r.text, got, r.want)
		}
	}
}

// many: so many texts, one behind the other, each with its number.
func many(n int, sep string, f func(i int) string) string {
	var l []string
	for i := range n {
		l = append(l, f(i))
	}
	return strings.Join(l, sep)
}

func accepted(t *testing.T, us []api.Unit) []api.Unit {
	t.Helper()
	got, f := check.Check(us, globals())
	if f != (api.Fault{}) || len(got) != len(us) {
		t.Fatalf("%d units of %d, %v", len(got), len(us), f)
	}
	return got
}
