package tokens_test

import (
	"strings"
	"testing"

	"plantwright/api"
	"plantwright/tokens"
)

// all: the tokens of a text, each in a few letters, up to its end.
func all(r *tokens.Reader) []string {
	var l []string
	for !r.IsClass(tokens.Ending) {
		t := r.Take()
		l = append(l, []string{"", "", "name ", "mark ", "number ", "span "}[t.Class]+t.Text)
	}
	return l
}

func TestTokens(t *testing.T) {
	for s, want := range map[string]string{
		"": "", " (* c *) // d": "",
		"LADDER Max x_1 _ t Time#1s t#2ms":                  "mark ladder|mark max|name x_1|name _|name t|span |span ",
		"1 16#fF 2#1_0":                                     "number |number |number ",
		":= => .. <= >= <> + - * / & = < > ( ) [ ] , ; : .": "mark :=|mark =>|mark ..|mark <=|mark >=|mark <>|mark +|mark -|mark *|mark /|mark &|mark =|mark <|mark >|mark (|mark )|mark [|mark ]|mark ,|mark ;|mark :|mark .",
		"[/>a]=>>b": "mark [|mark /|mark >|name a|mark ]|mark =>|mark >|name b",
		"<>=..:=/":  "mark <>|mark =|mark ..|mark :=|mark /",
	} {
		l, end, f := tokens.Within(s, 0, all)
		if strings.Join(l, "|") != want || end != len(s) || f != (api.Fault{}) {
			t.Errorf("%q: %q, %d, %v, not %q", s, l, end, f, want)
		}
	}
}

// A part is read from its place on, and ends at the place of the token behind it; a fault leaves nothing else.
func TestWithin(t *testing.T) {
	one := func(r *tokens.Reader) string { return r.NeedName() }
	for _, x := range []struct {
		text string
		at   int
		name string
		end  int
		want api.Fault
	}{
		{"a b", 0, "a", 2, api.Fault{}},
		{"a b ", 1, "b", 4, api.Fault{}},
		{"a (* c *) ;", 0, "a", 10, api.Fault{}},
		{"a %", 0, "", 0, api.Fault{Code: api.ErrText, At: 2}},
		{"a", 1, "", 0, api.Fault{Code: api.ErrText, At: 1}},
		{"; a", 0, "", 0, api.Fault{Code: api.ErrText, At: 0}},
		{"a", -1, "", 0, api.Fault{Code: api.ErrRange}},
		{"a", 2, "", 0, api.Fault{Code: api.ErrRange}},
		{strings.Repeat(" ", api.MaxText+1), -1, "", 0, api.Fault{Code: api.ErrSize}},
	} {
		if name, end, f := tokens.Within(x.text, x.at, one); name != x.name || end != x.end || f != x.want {
			t.Errorf("%.20q at %d: %q, %d, %v", x.text, x.at, name, end, f)
		}
	}
}

// A fault is told in the unit that is read, of a token not till it is looked at.
func TestGivingUp(t *testing.T) {
	_, _, f := tokens.Within("a %", 0, func(r *tokens.Reader) int {
		r.Whole = 3
		if next := r.Next(); next.Class != tokens.Broken || next.Fault != api.ErrText || next.At != 2 {
			t.Error(next)
		}
		r.Take()
		r.GiveUp(api.ErrDeep, 7)
		return 0
	})
	if f != (api.Fault{Code: api.ErrDeep, Unit: 3, At: 7}) {
		t.Error(f)
	}
}

func TestWords(t *testing.T) {
	tokens.Within("RUNG x ;", 0, func(r *tokens.Reader) int {
		if r.Is("x", "ladder") || !r.Is("ladder", "rung") || r.Took("x") || !r.Took("rung") {
			t.Error("rung")
		}
		if r.Is("x") || r.IsClass(tokens.Mark) || r.NeedClass(tokens.Name).At != 5 || r.Need(",", ";").Text != ";" || !r.IsClass(tokens.Ending) {
			t.Error("x;")
		}
		r.GoTo(4)
		if r.NeedName() != "x" {
			t.Error("back")
		}
		return 0
	})
}

func TestArgs(t *testing.T) {
	five := func() api.Expr { return api.Expr{Form: api.Lit, N: 5} }
	arg := func(s string, others int) (api.Arg, int, api.Fault) {
		return tokens.Within(s, 0, func(r *tokens.Reader) api.Arg { return r.NeedArg(others, five) })
	}
	if a, end, f := arg(" a := x", 2*api.MaxArgs-1); a.Name != "a" || a.Out || a.To != "" || a.E.N != 5 || a.At != 1 || end != 6 || f != (api.Fault{}) {
		t.Error(a, end, f)
	}
	if a, end, f := arg("a => x )", 0); a.Name != "a" || !a.Out || a.To != "x" || a.E.Form != 0 || end != 7 || f != (api.Fault{}) {
		t.Error(a, end, f)
	}
	for _, x := range []struct {
		text   string
		others int
		want   api.Fault
	}{
		{" a := x", 2 * api.MaxArgs, api.Fault{Code: api.ErrSize, At: 1}},
		{" 1 := x", 2 * api.MaxArgs, api.Fault{Code: api.ErrText, At: 1}},
		{"a = x", 0, api.Fault{Code: api.ErrText, At: 2}},
		{"a => 1", 0, api.Fault{Code: api.ErrText, At: 5}},
	} {
		if a, _, f := arg(x.text, x.others); f != x.want || a.Name != "" {
			t.Errorf("%q: %v, %v", x.text, a, f)
		}
	}
}
