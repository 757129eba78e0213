package wires_test

import (
	"fmt"
	"regexp"
	"strings"
	"testing"

	"plantwright/api"
	"plantwright/source"
	"plantwright/wires"
)

// die gives numbers that look drawn, the same each time.
type die uint64

func (d *die) n(most int) int {
	*d = *d*6364136223846793005 + 1442695040888963407
	return int(uint64(*d>>33) % uint64(most))
}

func pick[T any](d *die, l ...T) T {
	return l[d.n(len(l))]
}

// heads: variables for the nodes of tests.
const heads = "VAR a, b, c, d, e : INT; x : ARRAY[0..9] OF INT; p, q, r : BOOL; t : TON; u : ctu; END_VAR "

// whole: the text of a diagram with these heads and nodes.
func whole(nodes string) string {
	return "DIAGRAM g " + heads + nodes + " END_DIAGRAM"
}

// many: so many texts, one behind the other.
func many(n int, sep string, f func(i int) string) string {
	var l []string
	for i := range n {
		l = append(l, f(i))
	}
	return strings.Join(l, sep)
}

// nodes: so many of them, that write different names.
func nodes(n int) string {
	return many(n, " ", func(i int) string {
		return fmt.Sprintf([]string{"v%d := 1;", "PREV v%d := a;", "v%d(in := 1);"}[i%3], i)
	})
}

// read: the unit of a text that is right.
func read(t *testing.T, s string) api.Unit {
	t.Helper()
	u, f := wires.Read(s)
	if f != (api.Fault{}) {
		t.Fatalf("Read(%q): %v", s, f)
	}
	if !source.May(u) {
		t.Errorf("Read(%q): a unit that may not be", s)
	}
	return u
}

// accept: are these diagrams right?
func accept(t *testing.T, l ...string) {
	t.Helper()
	for _, s := range l {
		if u, f := wires.Read(s); f != (api.Fault{}) || u.Kind != api.Program || !source.May(u) {
			t.Errorf("Read(%q): %v", s, f)
		}
	}
}

// refuse: is each of these texts refused with that error, at the token behind its ^, and without a unit?
func refuse(t *testing.T, code api.Errno, l ...string) {
	t.Helper()
	for _, s := range l {
		at := strings.Index(s, "^")
		s = s[:at] + s[at+1:]
		u, f := wires.Read(s)
		if want := (api.Fault{Code: code, At: at}); f != want {
			t.Errorf("Read(%q): %v, not %v", s, f, want)
		}
		if !isNothing(u) {
			t.Errorf("Read(%q): a fault and a unit: %v", s, u)
		}
	}
}

// refuseIn: likewise, of nodes.
func refuseIn(t *testing.T, code api.Errno, l ...string) {
	t.Helper()
	for _, s := range l {
		refuse(t, code, whole(s))
	}
}

func isNothing(u api.Unit) bool {
	return u.Kind == 0 && u.Name == "" && u.Result == 0 && len(u.Vars) == 0 && len(u.Body) == 0 && u.At == 0
}

// unmarked: a text without its marks (as {x}), and where they stood.
func unmarked(s string) (string, map[string]int) {
	places := map[string]int{}
	for {
		from, to := strings.Index(s, "{"), strings.Index(s, "}")
		if from < 0 {
			return s, places
		}
		places[s[from+1:to]] = from
		s = s[:from] + s[to+1:]
	}
}

var mark = regexp.MustCompile(`@(\w+)`)

// becomes: do nodes with marks become these statements, with the places of the marks behind each @?
func becomes(t *testing.T, marked, want string) {
	t.Helper()
	s, places := unmarked(whole(marked))
	u := read(t, s)
	want = mark.ReplaceAllStringFunc(want, func(m string) string {
		at, ok := places[m[1:]]
		if !ok {
			t.Fatalf("no mark for %s", m)
		}
		return fmt.Sprintf("@%d", at)
	})
	if got := listed(u.Body); got != want {
		t.Errorf("%s:\n%s\nnot\n%s", marked, got, want)
	}
}

// goes: are nodes placed so that these statements are shown?
func goes(t *testing.T, nodes, want string) {
	t.Helper()
	if got := shown(read(t, whole(nodes)).Body); got != want {
		t.Errorf("%s:\n%s\nnot\n%s", nodes, got, want)
	}
}

// shown: statements on one line, as a unit's text has them.
func shown(l []api.Stmt) string {
	lines := strings.Split(source.Show(api.Unit{Kind: api.Program, Name: "p", Body: l}), "\n")
	var out []string
	for _, line := range lines {
		if strings.HasPrefix(line, "  ") {
			out = append(out, strings.TrimSpace(line))
		}
	}
	return strings.Join(out, " ")
}

// listed: statements on one line, each part with its place.
func listed(l []api.Stmt) string {
	var out []string
	for _, s := range l {
		out = append(out, listedStmt(s))
	}
	return strings.Join(out, " ")
}

func listedStmt(s api.Stmt) string {
	at := fmt.Sprintf("@%d", s.At)
	switch s.Verb {
	case api.Set:
		return s.Name + at + " := " + listedExpr(s.E[0]) + ";"
	case api.Invoke:
		var args []string
		for _, a := range s.Args {
			is := " := " + listedExpr(a.E)
			if a.Out {
				is = " => " + a.To
			}
			args = append(args, fmt.Sprintf("%s@%d%s", a.Name, a.At, is))
		}
		return s.Name + at + "(" + strings.Join(args, ", ") + ");"
	}
	return fmt.Sprint("verb ", s.Verb)
}

func listedExpr(e api.Expr) string {
	var kids []string
	for _, k := range e.Kids {
		kids = append(kids, listedExpr(k))
	}
	in := strings.Join(kids, ", ")
	at := fmt.Sprintf("@%d", e.At)
	switch e.Form {
	case api.Lit:
		return fmt.Sprintf("%d:%d%s", e.Kind, e.N, at)
	case api.Ref:
		return e.Name + at
	case api.Item:
		return e.Name + at + "[" + in + "]"
	case api.Part:
		return e.Name + "." + e.Part + at
	case api.Un:
		return fmt.Sprintf("un%d%s(%s)", e.Op, at, in)
	case api.Bin:
		return fmt.Sprintf("bin%d%s(%s)", e.Op, at, in)
	case api.Call:
		return e.Name + at + "(" + in + ")"
	}
	return fmt.Sprint("form ", e.Form)
}
