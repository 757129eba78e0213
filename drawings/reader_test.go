package drawings_test

import (
	"strings"
	"testing"

	"plantwright/api"
	"plantwright/drawings"
	"plantwright/tokens"
)

// within: what a part of a text is read as, where it ends, and its fault.
func within[T any](s string, at int, part func(drawings.Reader) T) (T, int, api.Fault) {
	return tokens.Within(s, at, func(r *tokens.Reader) T { return part(drawings.Reader{Reader: r}) })
}

// Heads and expressions are read from where the reader stands, and it goes on at the token behind them.
func TestParts(t *testing.T) {
	vars, end, f := within("x VAR a : INT; b : ton; END_VAR  VAR_INPUT c : BOOL; END_VAR (* c *) y", 1, drawings.Reader.Heads)
	if len(vars) != 3 || vars[1].Of != "ton" || vars[2].Role != api.Input || vars[2].At != 43 || end != 69 || f != (api.Fault{}) {
		t.Error(vars, end, f)
	}
	vars, end, f = within("x  y", 1, drawings.Reader.Heads)
	if len(vars) != 0 || end != 3 || f != (api.Fault{}) {
		t.Error(vars, end, f)
	}
	e, end, f := within("x a + 1 ;", 1, drawings.Reader.Expression)
	if e.Form != api.Bin || e.At != 4 || e.Kids[0].At != 2 || end != 8 || f != (api.Fault{}) {
		t.Error(e, end, f)
	}
	name, end, f := within("a * b VAR v : INT; END_VAR c d", 0, func(r drawings.Reader) string {
		r.Expression()
		r.Heads()
		return r.NeedName()
	})
	if name != "c" || end != 29 || f != (api.Fault{}) {
		t.Error(name, end, f)
	}
}

// What is wrong with a part ends all reading, with its place.
func TestFaults(t *testing.T) {
	for _, x := range []struct {
		text string
		want api.Fault
	}{
		{"", api.Fault{Code: api.ErrText}},
		{"a +", api.Fault{Code: api.ErrText, At: 3}},
		{"a + 4294967296", api.Fault{Code: api.ErrRange, At: 4}},
		{"a %", api.Fault{Code: api.ErrText, At: 2}},
		{strings.Repeat("(", api.MaxDeep-1) + "a", api.Fault{Code: api.ErrDeep, At: api.MaxDeep - 1}},
		{"a VAR b", api.Fault{Code: api.ErrText, At: 7}},
		{"a VAR b : ARRAY[2..1] OF INT;", api.Fault{Code: api.ErrRange, At: 19}},
	} {
		done, end, f := within(x.text, 0, func(r drawings.Reader) bool {
			r.Expression()
			r.Heads()
			return true
		})
		if done || end != 0 || f != x.want {
			t.Errorf("%q: %v, %d, %v", x.text, done, end, f)
		}
	}
}
