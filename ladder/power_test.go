package ladder_test

import (
	"fmt"
	"testing"

	"plantwright/api"
	"plantwright/blocks"
	"plantwright/code"
)

// machine runs a ladder, and has its variables by their names.
type machine struct {
	t     *testing.T
	code  api.Code
	frame []int
	at    map[string]int
}

func started(t *testing.T, s string) *machine {
	t.Helper()
	c, f := code.Compile([]api.Unit{read(t, s)}, nil)
	if f != (api.Fault{}) {
		t.Fatalf("Compile of %q: %v", s, f)
	}
	m := &machine{t: t, code: c, frame: c.Procs[0].First, at: map[string]int{}}
	for _, slot := range c.Procs[0].Slots {
		m.at[slot.Path] = slot.At
	}
	return m
}

func (m *machine) set(name string, n int) {
	m.frame[m.at[name]] = n
}

func (m *machine) get(name string) int {
	return m.frame[m.at[name]]
}

func (m *machine) run() {
	r := code.Run(m.code, 0, m.frame, 0)
	if r.Code != api.OK || r.Faults != 0 {
		m.t.Fatalf("a run: %v", r)
	}
	m.frame = r.Frame
}

// over: what a variable is behind each of some runs, of which each begins with a as it is said.
func over(t *testing.T, rungs, a, name string) string {
	t.Helper()
	m := started(t, whole(rungs))
	out := ""
	for _, c := range a {
		m.set("a", int(c-'0'))
		m.run()
		out += fmt.Sprint(m.get(name))
	}
	return out
}

func TestRuns(t *testing.T) {
	for _, x := range []struct{ rungs, a, name, want string }{
		{"RUNG [a] => m;", "01101", "m", "01101"},
		{"RUNG [/a] => m;", "01101", "m", "10010"},
		{"RUNG [a] => /m;", "01101", "m", "10010"},
		// An edge holds for one run alone; a falling one not before something rose.
		{"RUNG [>a] => m;", "0111001011", "m", "0100001010"},
		{"RUNG [>a] => m;", "11", "m", "10"},
		{"RUNG [<a] => m;", "0111001011", "m", "0000100100"},
		{"RUNG [<a] => m;", "00", "m", "00"},
		{"RUNG [a] => >m;", "0111001011", "m", "0100001010"},
		{"RUNG [/a] => >m;", "0111001011", "m", "1000100100"},
		// Set and reset stay.
		{"RUNG [a] => +m;", "0101100", "m", "0111111"},
		{"RUNG [a] => -m; RUNG [/a] => +m;", "0101100", "m", "1010011"},
		{"RUNG [/a] => -m;", "010", "m", "000"},
		{"RUNG [a] => +m; RUNG [/a] => -m;", "0101100", "m", "0101100"},
		// A rung below sees what those above it did; one above not till the next run.
		{"RUNG [a] => b; RUNG [b] => m;", "0110", "m", "0110"},
		{"RUNG [b] => m; RUNG [a] => b;", "0110", "m", "0011"},
		// All coils of a rung have its power, whatever those ahead of them did.
		{"RUNG [/a] => a, m, /n;", "0110", "m", "1001"},
		{"RUNG [/a] => a, m, /n;", "0110", "n", "0110"},
		{"RUNG [a] => -a, m;", "0110", "m", "0110"},
		// An edge is looked for though its way has no power, and by each contact by itself.
		{"RUNG [b] [>a] => m; RUNG [/b] => +b;", "1011", "m", "0010"},
		{"RUNG [b] [>a] => m; RUNG [/b] => +b;", "1101", "m", "0001"},
		{"RUNG [>a] => m; RUNG [>a] => n;", "0110", "n", "0100"},
		{"RUNG [a] => u(cu, pv := 2, q => m);", "0101011", "m", "0001111"},
		{"RUNG [a] => u(cu, pv := 2); RUNG [u.q] => m;", "0101011", "m", "0001111"},
		{"RUNG [a] => u(cu, pv := 2); RUNG [>u.q] => m;", "0101011", "m", "0001000"},
		{"RUNG [a] => u(cu, pv := 2); RUNG [/u.q] [a] => m;", "0101011", "m", "0100000"},
	} {
		if got := over(t, x.rungs, x.a, x.name); got != x.want {
			t.Errorf("%s: %s is %s, not %s", x.rungs, x.name, got, x.want)
		}
	}
}

func TestHeldOn(t *testing.T) {
	m := started(t, "LADDER l VAR a, b, m : BOOL; END_VAR RUNG ([a], [m]) [/b] => m; END_LADDER")
	got := ""
	for _, ab := range []string{"00", "10", "00", "00", "01", "00", "11", "10"} {
		m.set("a", int(ab[0]-'0'))
		m.set("b", int(ab[1]-'0'))
		m.run()
		got += fmt.Sprint(m.get("m"))
	}
	if got != "01110001" {
		t.Error(got)
	}
}

// follower does what a drawing tells, by ways that lead through, not by expressions.
type follower struct {
	values map[string]int
	prev   map[string]int // what an edge was looking at, by its rung and its place there
	count  []int          // the state of u
}

// ways: all that lead from the left to the right, each as the contacts on it.
func (w way) ways() [][]step {
	all := [][]step{nil}
	for _, s := range w {
		parts := [][]step{{s}}
		if s.ways != nil {
			parts = nil
			for _, in := range s.ways {
				parts = append(parts, in.ways()...)
			}
		}
		var longer [][]step
		for _, front := range all {
			for _, part := range parts {
				longer = append(longer, append(append([]step(nil), front...), part...))
			}
		}
		all = longer
	}
	return all
}

func (f *follower) edge(key string, now, wanted int) int {
	was := f.prev[key]
	f.prev[key] = now
	if now != was && now == wanted {
		return 1
	}
	return 0
}

// holds: which contacts hold, by their places?
func (f *follower) holds(r int, w way) map[int]bool {
	holds := map[int]bool{}
	w.each(func(s step) {
		name, key := s.name, fmt.Sprint(r, "contact", s.at)
		if s.part != "" {
			name += "." + s.part
		}
		is := f.values[name]
		switch s.sign {
		case "/":
			is = 1 - is
		case ">":
			is = f.edge(key, is, 1)
		case "<":
			is = f.edge(key, is, 0)
		}
		holds[s.at] = is == 1
	})
	return holds
}

func (f *follower) rung(i int, r rung) {
	holds := f.holds(i, r.way)
	power := 0
	for _, contacts := range r.way.ways() {
		through := true
		for _, s := range contacts {
			through = through && holds[s.at]
		}
		if through {
			power = 1
		}
	}
	for _, c := range r.coils {
		f.coil(fmt.Sprint(i, "coil", c.at), c, power)
	}
}

func (f *follower) coil(key string, c coil, power int) {
	switch {
	case c.args != nil:
		state, out := blocks.Step("ctu", f.count, []int{power, 0, 2}, 0)
		f.count = state
		f.values["u.q"], f.values["n"] = out[0], out[0]
	case c.sign == "/":
		f.values[c.name] = 1 - power
	case c.sign == "+" && power == 1:
		f.values[c.name] = 1
	case c.sign == "-" && power == 1:
		f.values[c.name] = 0
	case c.sign == ">":
		f.values[c.name] = f.edge(key, power, 1)
	case c.sign == "":
		f.values[c.name] = power
	}
}

// A rung has power just where a way leads through on which all contacts hold.
func TestPowerOfDrawn(t *testing.T) {
	d := die(3)
	for range 400 {
		a := artist{die: &d, counts: true}
		for range 1 + a.n(3) {
			a.rung(1+a.n(7), 1+a.n(3), a.n(4), 0)
		}
		s := whole(a.text())
		drawn := (&model{s: s, now: cut(s, 0)}).text()
		m := started(t, s)
		f := follower{values: map[string]int{}, prev: map[string]int{}}
		for range 12 {
			for _, name := range []string{"a", "b", "c"} {
				n := a.n(2)
				m.set(name, n)
				f.values[name] = n
			}
			m.run()
			for i, r := range drawn.rungs {
				f.rung(i, r)
			}
			for _, name := range []string{"a", "b", "c", "d", "m", "n", "q", "u.q"} {
				if m.get(name) != f.values[name] {
					t.Fatalf("%s\n%s is %d, not %d", s, name, m.get(name), f.values[name])
				}
			}
		}
	}
}
