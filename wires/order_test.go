package wires_test

import (
	"fmt"
	"slices"
	"strings"
	"testing"

	"plantwright/api"
	"plantwright/wires"
)

func TestOrder(t *testing.T) {
	for nodes, want := range map[string]string{
		"":                                    "",
		"a := 1;":                             "a := 1;",
		"a := b;":                             "a := b;",
		"a := 1; b := 2; c := 3;":             "a := 1; b := 2; c := 3;",
		"c := 1; b := 2; a := 3;":             "c := 1; b := 2; a := 3;",
		"c := b; b := a; e := c; a := 1;":     "a := 1; b := a; c := b; e := c;",
		"a := b; b := c; c := d; d := e;":     "d := e; c := d; b := c; a := b;",
		"b := 1; a := b;":                     "b := 1; a := b;",
		"a := b + c; b := 1; d := 2; c := 3;": "b := 1; d := 2; c := 3; a := b + c;",
		// The first that can be placed comes next, though it stood behind others when they could not.
		"a := b; c := 1; b := 2; d := 3;":             "c := 1; b := 2; a := b; d := 3;",
		"a := b; c := d; d := 1; b := 2; e := 3;":     "d := 1; c := d; b := 2; a := b; e := 3;",
		"a := b; b := 2; c := d; d := 1;":             "b := 2; a := b; d := 1; c := d;",
		"e := 1; a := b + d; d := c; c := b; b := 2;": "e := 1; b := 2; c := b; d := c; a := b + d;",
	} {
		goes(t, nodes, want)
	}
}

// All places in which a name can stand in an expression are read; b stands behind in the text, and comes ahead by that.
func TestReads(t *testing.T) {
	for _, e := range []string{
		"b", "b[1]", "x[b]", "x[x[b]]", "x[1 + b]", "b.q", "-b", "NOT b", "-(-(b))", "(b)", "((b))", "1 + b", "b + 1", "1 + 2 * b", "(1 + b) * 2", "1 - 2 - b", "b AND c", "c & b", "c OR b", "c XOR b", "c = b", "c <> b", "c < b", "c > b", "c <= b", "c >= b", "c / b", "c MOD b",
		"f(b)", "max(b, 1)", "max(1, b)", "f(1, 2, 3, 4, 5, 6, 7, b)", "f(g(h(b)))", "f(x[b])", "f(b.q)", "f(-b)", "b(1) + b", "c.b + b.c", "f(b[c])", "b + b", "B",
	} {
		if got := read(t, whole("a := "+e+"; b := 9;")).Body; got[0].Name != "b" || got[1].Name != "a" {
			t.Errorf("%s: %s", e, shown(got))
		}
		if got := read(t, whole("t(in := 1, pt := "+e+", q => r); b := 9;")).Body; got[0].Name != "b" || got[1].Name != "t" {
			t.Errorf("%s as an arg: %s", e, shown(got))
		}
	}
}

// What is not read: functions, outputs of instances, names of inputs and outputs, what PREV takes.
func TestReadsNot(t *testing.T) {
	for _, first := range []string{
		"a := b(1);", "a := c + b(1, b(2));", "a := c.b;", "a := x[c.b];", "a := f(c.b, b(1));", "a := 1;", "a := T#1s;", "a := TRUE;", "a := bb;", "a := c[d];",
		"t(b := 1);", "t(b => c);", "t(b := c.b);", "t(b := 1, b := 2, b => c, b => d);", "t();",
	} {
		if got := read(t, whole(first+" b := 9;")).Body; got[1].Name != "b" {
			t.Errorf("%s: %s", first, shown(got))
		}
	}
	goes(t, "PREV a := b; t(in := c); b := 9;", "t(in := c); b := 9; a := b;")
}

// What is written: the name ahead of :=, an instance, what takes outputs.
func TestWrites(t *testing.T) {
	goes(t, "a := t.q; t(in := p);", "t(in := p); a := t.q;")
	goes(t, "a := t; t();", "t(); a := t;")
	goes(t, "a := b; t(q => b);", "t(q => b); a := b;")
	goes(t, "a := b; c := d; t(q => b, et => d);", "t(q => b, et => d); a := b; c := d;")
	goes(t, "p := q; t(in := r, q => q); u(cu := a, q => r);", "u(cu := a, q => r); t(in := r, q => q); p := q;")
}

// A name that nobody writes, or a node with PREV alone, is no wire.
func TestPrevIsNoWire(t *testing.T) {
	goes(t, "a := b; PREV b := a;", "a := b; b := a;")
	goes(t, "PREV b := a; a := b;", "a := b; b := a;")
	goes(t, "PREV a := a;", "a := a;")
	goes(t, "PREV a := b; PREV b := a;", "a := b; b := a;")
	goes(t, "PREV b := a; PREV a := b; c := d; PREV d := e; e := c;", "c := d; e := c; b := a; a := b; d := e;")
	goes(t, "PREV a := c; d := a; c := b; PREV b := d; e := c;", "d := a; c := b; e := c; a := c; b := d;")
	goes(t, "t(in := p, q => q); PREV p := q; PREV r := p;", "t(in := p, q => q); p := q; r := p;")
}

func TestLoops(t *testing.T) {
	refuseIn(t, api.ErrLoop,
		"^a := a;", "^a := b; b := a;", "^b := a; a := b;", "^a := b; b := c; c := a;", "^a := a + 1; b := 2;", "b := 2; ^a := a;", "b := 2; c := b; ^a := a; d := c;",
		"^a := x[a];", "^a := a[1];", "^a := f(a);", "^a := a.q;", "^t(in := t.q);", "^t(in := t);", "^t(in := q, q => q);", "^t(in := x[t.et]);", "^t(in := p, pt := f(t.q));", "^t(in := p, q => q); p := q;", "^p := t.q; t(in := p);", "^t(in := u.q); u(cu := t.q);", "^p := q; t(in := r, q => q); u(cu := p, q => r);",
		// The first one that is left is told, though it stands in no circle itself.
		"^d := a; a := b; b := a;", "c := 1; ^d := a + c; a := b; b := a;", "c := d; d := 1; ^e := a; a := a;",
		// Those that can be placed are, whichever stand ahead of them.
		"b := c; ^a := a; c := 1;", "^a := a; b := c; c := 1;", "d := 1; ^a := b; c := d; b := a;",
		"PREV c := a; ^a := b; b := a;", "PREV b := a; ^a := a;", "PREV b := a; c := b; ^a := d; d := a;",
	)
	accept(t, whole("a := a(1);"), whole("a := t.a; t(a := 1, a => p);"), whole("a := b.a; b := 1;"), whole("t(t := 1);"))
}

func TestTwice(t *testing.T) {
	refuseIn(t, api.ErrTwice,
		"a := 1; ^a := 2;", "a := 1; b := 2; ^a := 3; b := 4;", "a := 1; ^A := 2;", "a := 1; ^PREV a := b;", "PREV a := b; ^a := 1;", "PREV a := b; ^PREV a := b;", "a := 1; b := 2; ^PREV b := a; a := 3;",
		"t(); ^t();", "t(); ^t := 1;", "t := 1; ^t();", "t(); ^PREV t := a;", "PREV t := a; ^t();",
		"a := 1; ^t(q => a);", "t(q => a); ^a := 1;", "t(q => a); ^u(q => a);", "t(q => a); ^PREV a := b;", "PREV a := b; ^t(q => a);", "t(q => u); ^u();", "u(); ^t(q => u);", "a := 1; ^t(q => b, et => a);",
		"^t(q => a, q => a);", "^t(q => a, et => a);", "^t(q => t);", "^t(in := p, q => a, pt := T#1s, et => b, x => a);", "b := 1; ^t(q => A, et => a); t();", "^t(q => a, q => b, q => c, q => b); t(q => a);",
	)
	accept(t, whole("t(q => r); q(t => a, r => b);"), whole("t(a => b); a := 1;"), whole("t(a := b); a := 1; b := 2;"), whole("a := b + b;"), whole("t(in := a, in := a, q => p, q => r);"), whole("t(q => a, a => b);"))
}

// What is wrong with the text is told ahead of what is written twice, that ahead of loops.
func TestOrderOfFaults(t *testing.T) {
	refuseIn(t, api.ErrTwice, "a := a; b := 1; ^b := 2;", "a := b; b := a; ^a := 1;", "c := c; ^PREV c := a;", "a := a; ^t(in := t.q, q => t);")
	refuseIn(t, api.ErrText, "a := 1; a := 2; ^;", "a := a; ^:=", "t(q => t); a := 1 ^b;")
	refuse(t, api.ErrText, "DIAGRAM d a := a; a := 1;^", "DIAGRAM d a := a; END_DIAGRAM ^x", "DIAGRAM d a := a; a := 1; END_DIAGRAM ^%")
	refuse(t, api.ErrLong, "DIAGRAM d a := a; a := 1; END_DIAGRAM ^"+strings.Repeat("x", api.MaxName+1))
	refuse(t, api.ErrSize, "DIAGRAM d a := a; a := 1; "+nodes(api.MaxNodes-2)+" ^b := 1; END_DIAGRAM")
	refuse(t, api.ErrTwice, "DIAGRAM d "+nodes(api.MaxNodes-1)+" ^v0 := 1; END_DIAGRAM", "DIAGRAM d "+nodes(api.MaxNodes-1)+" ^PREV v1 := v1; END_DIAGRAM")
	refuse(t, api.ErrLoop, "DIAGRAM d "+nodes(api.MaxNodes-1)+" ^v := v; END_DIAGRAM")
}

// drawnGraph: nodes of which node i reads node j where bit i*n+j is set, as a text, and where each node stands in it.
func drawnGraph(n, bits int) (string, []int) {
	s := "DIAGRAM d "
	var places []int
	for i := range n {
		places = append(places, len(s))
		s += fmt.Sprintf("v%d := 0", i)
		for j := range n {
			if bits>>(i*n+j)&1 == 1 {
				s += fmt.Sprintf(" + v%d", j)
			}
		}
		s += "; "
	}
	return s + "END_DIAGRAM", places
}

// permutations of the numbers below n, the least first.
func permutations(n int) [][]int {
	all := [][]int{{}}
	for range n {
		var longer [][]int
		for _, p := range all {
			for i := range n {
				if !slices.Contains(p, i) {
					longer = append(longer, append(slices.Clone(p), i))
				}
			}
		}
		all = longer
	}
	return all
}

// fits: does each node stand behind all that it reads?
func fits(p []int, n, bits int) bool {
	for k, i := range p {
		for _, j := range p[k:] {
			if bits>>(i*n+j)&1 == 1 {
				return false
			}
		}
	}
	return true
}

// firstStuck: the first node from which a way leads to one that leads to itself.
func firstStuck(n, bits int) int {
	leads := func(i, j int) bool { return bits>>(i*n+j)&1 == 1 }
	for k := range n {
		for i := range n {
			for j := range n {
				if leads(i, k) && leads(k, j) {
					bits |= 1 << (i*n + j)
				}
			}
		}
	}
	for i := range n {
		for j := range n {
			if (i == j || leads(i, j)) && leads(j, j) {
				return i
			}
		}
	}
	return -1
}

// Of all orders in which each node stands behind what it reads, it is the one that leaves the text's as late as may be.
func TestAllSmallGraphs(t *testing.T) {
	for n := 1; n <= 4; n++ {
		orders := permutations(n)
		for bits := range 1 << (n * n) {
			s, places := drawnGraph(n, bits)
			u, f := wires.Read(s)
			i := slices.IndexFunc(orders, func(p []int) bool { return fits(p, n, bits) })
			if i < 0 {
				if want := (api.Fault{Code: api.ErrLoop, At: places[firstStuck(n, bits)]}); f != want || !isNothing(u) {
					t.Fatalf("%s: %v, not %v", s, f, want)
				}
				continue
			}
			if f != (api.Fault{}) || len(u.Body) != n {
				t.Fatalf("%s: %v", s, f)
			}
			for k, stmt := range u.Body {
				if stmt.At != places[orders[i][k]] {
					t.Fatalf("%s: %s, not %v", s, shown(u.Body), orders[i])
				}
			}
		}
	}
}

// Long chains: of each node its name is read by the one ahead of it in the text, or all of it stands in a circle.
func TestChains(t *testing.T) {
	chain := many(api.MaxNodes, " ", func(i int) string { return fmt.Sprintf("v%d := v%d;", i, i+1) })
	u := read(t, "DIAGRAM d "+chain+" END_DIAGRAM")
	for i, s := range u.Body {
		if want := fmt.Sprintf("v%d", api.MaxNodes-1-i); s.Name != want {
			t.Fatalf("%d: %s, not %s", i, s.Name, want)
		}
	}
	refuse(t, api.ErrLoop, "DIAGRAM d ^"+strings.Replace(chain, fmt.Sprintf("v%d;", api.MaxNodes), "v0;", 1)+" END_DIAGRAM")
	wide := many(api.MaxNodes, " ", func(i int) string {
		return fmt.Sprintf("v%d := %s;", i, many(50, "+", func(k int) string { return fmt.Sprint("v", min(i+k+1, api.MaxNodes)) }))
	})
	if u := read(t, "DIAGRAM d "+wide+" END_DIAGRAM"); u.Body[0].Name != "v199" || u.Body[199].Name != "v0" {
		t.Error(shown(u.Body))
	}
}
