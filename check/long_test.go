package check_test

import (
	"strings"
	"testing"

	"plantwright/api"
	"plantwright/check"
)

// chain: a sum of so many operands, as deep as it is long; first, last: those at its ends.
func chain(n int, op api.Op, first, rest, last api.Expr) api.Expr {
	e := first
	for i := 1; i < n; i++ {
		next := rest
		if i == n-1 {
			next = last
		}
		e = api.Expr{Form: api.Bin, Op: op, Kids: []api.Expr{e, next}}
	}
	return e
}

func setting(e api.Expr) []api.Unit {
	return []api.Unit{{Kind: api.Program, Name: "p",
		Vars: []api.Var{{Name: "x", Role: api.Own, Kind: api.Int}},
		Body: []api.Stmt{{Verb: api.Set, Name: "x", E: []api.Expr{e}}},
	}}
}

// refuseQuietly: as refused, of units too long to be told.
func refuseQuietly(t *testing.T, us []api.Unit, want api.Fault) {
	t.Helper()
	if got, f := check.Check(us, nil); f != want || len(got) != 0 {
		t.Errorf("%d units, %v, not %v", len(got), f, want)
	}
}

// A sum of very many operands is gone through in a time that goes with its length, wherever what is not bare stands.
func TestLongSums(t *testing.T) {
	one, x := api.Expr{Form: api.Lit, N: 1}, api.Expr{Form: api.Ref, Name: "x"}
	wide := api.Expr{Form: api.Lit, N: 40000, At: 8}
	const n = 60000
	for _, e := range []api.Expr{chain(n, api.Add, one, one, one), chain(n, api.Add, x, one, one), chain(n, api.Add, one, one, x), chain(n, api.Mul, x, one, x)} {
		got := accepted(t, setting(e))
		if k := got[0].Body[0].E[0].Kind; k != api.Int {
			t.Error(k)
		}
	}
	refuseQuietly(t, setting(chain(n, api.Add, wide, one, x)), api.Fault{Code: api.ErrRange, At: 8})
	refuseQuietly(t, setting(chain(n, api.Add, x, one, wide)), api.Fault{Code: api.ErrRange, At: 8})
}

// Very many labels are held against each other in a time that goes nearly with their number.
func TestManyLabels(t *testing.T) {
	const n = 200000
	var arms []api.Arm
	for i := range n {
		at := (i*7919%n - n/2) * 3
		arms = append(arms, api.Arm{Labels: [][2]int{{at, at + 1}}})
	}
	unit := func() []api.Unit {
		return []api.Unit{{Kind: api.Program, Name: "p", Body: []api.Stmt{{Verb: api.Case, At: 3, E: []api.Expr{{Form: api.Lit}}, Arms: arms}}}}
	}
	accepted(t, unit())
	arms[n-1].Labels[0][1]++
	accepted(t, unit())
	arms[n-1].Labels[0][1]++
	refuseQuietly(t, unit(), api.Fault{Code: api.ErrTwice, At: 3})
}

// The longest text that there may be, of nested statements and of many.
func TestLongTexts(t *testing.T) {
	for _, s := range []string{strings.Repeat("a:=1;", 11000), strings.Repeat("IF b THEN a:=a+1;END_IF;", 2400), "a:=" + strings.Repeat("1+", 29000) + "a;", "a:=" + strings.Repeat("a-", 29000) + "1;"} {
		text := program(s)
		if len(text) > api.MaxText {
			t.Fatal(len(text))
		}
		if _, f := check.Check(parsed(t, text), globals()); f != (api.Fault{}) {
			t.Error(f)
		}
	}
}

// Signs within one another are gone through once each, as deep as they may stand.
func TestManySigns(t *testing.T) {
	accept(t, "a := "+strings.Repeat("- ", api.MaxDeep-2)+"a;", "b := "+strings.Repeat("NOT ", api.MaxDeep-2)+"b;", "a := "+strings.Repeat("-(", api.MaxDeep/2-1)+"1 + a"+strings.Repeat(")", api.MaxDeep/2-1)+";")
}
