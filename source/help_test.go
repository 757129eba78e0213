package source_test

import (
	"fmt"
	"reflect"
	"strings"
	"testing"

	"plantwright/api"
	"plantwright/source"
)

// plain: the tree without places, its empty lists all nil.
func plain(u api.Unit) api.Unit {
	u.At = 0
	u.Vars = each(u.Vars, func(v api.Var) api.Var {
		v.At, v.Init = 0, plainExpr(v.Init)
		return v
	})
	u.Body = each(u.Body, plainStmt)
	return u
}

func plainStmt(s api.Stmt) api.Stmt {
	s.At = 0
	s.E = each(s.E, plainExpr)
	s.Args = each(s.Args, func(a api.Arg) api.Arg {
		a.At, a.E = 0, plainExpr(a.E)
		return a
	})
	s.Arms = each(s.Arms, func(a api.Arm) api.Arm {
		a.E, a.Body = plainExpr(a.E), each(a.Body, plainStmt)
		a.Labels = each(a.Labels, func(l [2]int) [2]int { return l })
		return a
	})
	s.Else, s.Body = each(s.Else, plainStmt), each(s.Body, plainStmt)
	return s
}

func plainExpr(e api.Expr) api.Expr {
	e.At = 0
	e.Kids = each(e.Kids, plainExpr)
	return e
}

func each[T any](l []T, f func(T) T) []T {
	var out []T
	for _, x := range l {
		out = append(out, f(x))
	}
	return out
}

// alike: are these the same but for places?
func alike(a, b []api.Unit) bool {
	return reflect.DeepEqual(each(a, plain), each(b, plain))
}

// told: an expression on one line, each part with its place.
func told(e api.Expr) string {
	var kids []string
	for _, k := range e.Kids {
		kids = append(kids, told(k))
	}
	in := strings.Join(kids, " ")
	at := fmt.Sprintf("@%d", e.At)
	switch e.Form {
	case api.Lit:
		return fmt.Sprintf("%d:%d%s", e.Kind, e.N, at)
	case api.Ref:
		return e.Name + at
	case api.Item:
		return e.Name + at + "[" + in + "]"
	case api.Part:
		return e.Name + "." + e.Part + at
	case api.Un:
		return fmt.Sprintf("un%d%s(%s)", e.Op, at, in)
	case api.Bin:
		return fmt.Sprintf("bin%d%s(%s)", e.Op, at, in)
	case api.Call:
		return e.Name + at + "(" + in + ")"
	}
	return "nothing"
}

// one: the only unit of a text that is right.
func one(t *testing.T, s string) api.Unit {
	t.Helper()
	l, f := source.Parse(s)
	if f != (api.Fault{}) || len(l) != 1 {
		t.Fatalf("Parse(%q): %d units, %v", s, len(l), f)
	}
	return l[0]
}

// body: the text of a program with these statements.
func body(s string) string {
	return "PROGRAM p " + s + " END_PROGRAM"
}

// wrong is a text in which a ^ stands ahead of the token that is wrong.
type wrong struct {
	text string
	code api.Errno
}

func (w wrong) parts() (string, int) {
	at := strings.Index(w.text, "^")
	return w.text[:at] + w.text[at+1:], at
}

// refuse: are these texts refused, in their unit?
func refuse(t *testing.T, unit int, l []wrong) {
	t.Helper()
	for _, w := range l {
		s, at := w.parts()
		want := api.Fault{Code: w.code, Unit: unit, At: at}
		if u, f := source.Parse(s); f != want || len(u) != 0 {
			t.Errorf("Parse(%q): %d units, %v, not %v", s, len(u), f, want)
		}
	}
}

// refuseIn: likewise, of statements of a program, or heads of it.
func refuseIn(t *testing.T, l []wrong) {
	t.Helper()
	var whole []wrong
	for _, w := range l {
		whole = append(whole, wrong{body(w.text), w.code})
	}
	refuse(t, 0, whole)
}

// accept: are these statements, or heads, of a program right?
func accept(t *testing.T, l ...string) {
	t.Helper()
	for _, s := range l {
		if u, f := source.Parse(body(s)); f.Code != api.OK || len(u) != 1 || !source.May(u[0]) {
			t.Errorf("Parse(%q): %d units, %v", body(s), len(u), f)
		}
	}
}

// many: so many texts, one behind the other, each with its number.
func many(n int, sep string, f func(i int) string) string {
	var l []string
	for i := range n {
		l = append(l, f(i))
	}
	return strings.Join(l, sep)
}

// misfits: does a token that cannot stand there end each of these bodies of a program?
func misfits(t *testing.T, l ...string) {
	t.Helper()
	for _, s := range l {
		refuseIn(t, []wrong{{s, api.ErrText}})
	}
}
