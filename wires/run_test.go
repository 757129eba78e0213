package wires_test

import (
	"fmt"
	"slices"
	"strings"
	"testing"

	"plantwright/api"
	"plantwright/code"
)

// machine runs a diagram, and has its variables by their names.
type machine struct {
	t     *testing.T
	code  api.Code
	frame []int
	at    map[string]int
	now   int
}

func started(t *testing.T, s string) *machine {
	t.Helper()
	c, f := code.Compile([]api.Unit{read(t, s)}, nil)
	if f != (api.Fault{}) {
		t.Fatalf("Compile of %q: %v", s, f)
	}
	m := &machine{t: t, code: c, frame: c.Procs[0].First, at: map[string]int{}}
	for _, slot := range c.Procs[0].Slots {
		m.at[slot.Path] = slot.At
	}
	return m
}

func (m *machine) set(name string, n int) {
	m.frame[m.at[name]] = n
}

func (m *machine) get(name string) int {
	return m.frame[m.at[name]]
}

func (m *machine) run() {
	r := code.Run(m.code, 0, m.frame, m.now)
	if r.Code != api.OK {
		m.t.Fatalf("a run: %v", r)
	}
	m.frame = r.Frame
	m.now += 10
}

// over: what a variable is behind each of some runs, of which each begins with a (or p) as it is said.
func over(t *testing.T, nodes, input, values, name string) string {
	t.Helper()
	m := started(t, whole(nodes))
	out := ""
	for _, c := range values {
		m.set(input, int(c-'0'))
		m.run()
		out += fmt.Sprint(m.get(name))
	}
	return out
}

func TestRuns(t *testing.T) {
	for _, x := range []struct{ nodes, input, values, name, want string }{
		{"c := b + 1; b := a + 1;", "a", "0123", "c", "2345"},
		{"b := a + 1; c := b + 1;", "a", "0123", "c", "2345"},
		{"b := x[c]; c := a; PREV d := b;", "a", "012", "b", "000"},
		// PREV takes what is there at the end of a run, and gives it to the next one.
		{"PREV b := a;", "a", "1234", "b", "1234"},
		{"c := b; PREV b := a;", "a", "1234", "c", "0123"},
		{"PREV b := a; c := b;", "a", "1234", "c", "0123"},
		{"PREV b := c; c := b + a;", "a", "1112", "c", "1235"},
		{"c := b + a; PREV b := c;", "a", "1112", "c", "1235"},
		{"e := d; PREV d := c; c := b; PREV b := a;", "a", "12345", "e", "00123"},
		// Those with PREV follow one another as the text has them.
		{"PREV d := c; PREV c := b; PREV b := a;", "a", "12345", "d", "00123"},
		{"PREV b := a; PREV c := b; PREV d := c;", "a", "12345", "d", "12345"},
		// Edges: what p was one run ago.
		{"q := p AND NOT r; PREV r := p;", "p", "0110100", "q", "0100100"},
		{"r := u.q; u(cu := p, pv := 2);", "p", "0101011", "r", "0001111"},
		{"u(cu := p, pv := 2, q => r); q := r;", "p", "0101011", "q", "0001111"},
		{"q := r; u(cu := p, pv := 2, q => r);", "p", "0101011", "q", "0001111"},
		{"PREV q := r; u(cu := p, pv := 2, r := q, q => r);", "p", "0101011", "r", "0001000"},
	} {
		if got := over(t, x.nodes, x.input, x.values, x.name); got != x.want {
			t.Errorf("%s: %s is %s, not %s", x.nodes, x.name, got, x.want)
		}
	}
}

// drawnNodes: some that can be run, each of which reads inputs (i0, i1, ..) and those ahead of it alone.
func drawnNodes(d *die, n int) []string {
	numbers := []string{"i0", "i1", "i2"}
	var out []string
	number := func() string {
		return pick(d, pick(d, numbers...), pick(d, numbers...), "3", "f[1 + ("+pick(d, numbers...)+" MOD 5)]", "max("+pick(d, numbers...)+", 7)")
	}
	for k := range n {
		name := fmt.Sprint("n", k)
		switch d.n(5) {
		case 0:
			instance, truth := fmt.Sprint("u", k), number()+" > "+number()
			out = append(out, fmt.Sprintf("%s(cu := %s, pv := %s, cv => %s);", instance, truth, number(), name))
			numbers = append(numbers, name, instance+".cv")
		case 1:
			instance := fmt.Sprint("w", k)
			out = append(out, fmt.Sprintf("%s(in := %s <> 0, pt := T#20ms);", instance, number()), fmt.Sprintf("%s := sel(%s.q, %s, %s);", name, instance, number(), number()))
			numbers = append(numbers, name)
		default:
			out = append(out, fmt.Sprintf("%s := %s %s %s;", name, number(), pick(d, "+", "-", "*", "/", "MOD"), number()))
			numbers = append(numbers, name)
		}
	}
	return out
}

// runnable: the text of a diagram with these nodes, of n numbers.
func runnable(n int, nodes []string) string {
	list := func(letter string) string {
		return many(n, ", ", func(i int) string { return fmt.Sprint(letter, i) })
	}
	return "DIAGRAM d VAR i0, i1, i2, " + list("n") + " : INT; f : ARRAY[-5..9] OF INT; " + list("u") + " : ctu; " + list("w") + " : ton; END_VAR " + strings.Join(nodes, " ") + " END_DIAGRAM"
}

// shuffled: the same nodes in another order.
func shuffled(d *die, l []string) []string {
	l = slices.Clone(l)
	for i := range l {
		j := i + d.n(len(l)-i)
		l[i], l[j] = l[j], l[i]
	}
	return l
}

// Nodes without PREV that stand in another order give the same values.
func TestAnyOrderSameValues(t *testing.T) {
	d := die(9)
	for range 150 {
		n := 1 + d.n(9)
		nodes := drawnNodes(&d, n)
		machines := []*machine{started(t, runnable(n, nodes))}
		if got := shown(read(t, runnable(n, nodes)).Body); strings.Count(got, ";") != len(nodes) {
			t.Fatal(got)
		}
		for range 4 {
			machines = append(machines, started(t, runnable(n, shuffled(&d, nodes))))
		}
		for range 12 {
			a, b, c := d.n(4), d.n(4), d.n(4)
			for i, m := range machines {
				m.set("i0", a)
				m.set("i1", b)
				m.set("i2", c)
				m.run()
				if !slices.Equal(m.frame, machines[0].frame) {
					t.Fatalf("%v: %v in the order %d, %v in the first", nodes, m.frame, i, machines[0].frame)
				}
			}
		}
	}
}
