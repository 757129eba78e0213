package change_test

import (
	"fmt"
	"slices"
	"strings"
	"testing"

	"plantwright/api"
	"plantwright/change"
	"plantwright/code"
	"plantwright/source"
)

// ahead: units that programs call, and have instances of.
const ahead = `FUNCTION twice : INT VAR_INPUT x : INT; END_VAR VAR y : INT := 3; END_VAR y := y + x; twice := y + x - 3; END_FUNCTION
FUNCTION four : INT VAR_INPUT x : INT; END_VAR four := twice(twice(x)); END_FUNCTION
FUNCTION_BLOCK sums VAR_INPUT n : INT; END_VAR VAR_OUTPUT sum : INT := 5; END_VAR VAR RETAIN past : ARRAY[0..2] OF INT := 4; END_VAR VAR up : ctu; END_VAR
past[2] := past[1]; past[1] := past[0]; past[0] := n; up(cu := n > 0, pv := 9); sum := sum + four(n) + past[2] + up.cv; END_FUNCTION_BLOCK
FUNCTION_BLOCK pair VAR_INPUT n : INT; END_VAR VAR one, two : sums; END_VAR VAR late : ton; END_VAR one(n := n); two(n := one.sum); late(in := n > 1, pt := T#7ms); END_FUNCTION_BLOCK
`

// parts: what a program may have, and what it does with that in a run.
var parts = []struct{ heads, list string }{
	{"VAR a : INT := 7; END_VAR", "a := a + 1;"},
	{"VAR RETAIN b : DINT := -9; END_VAR", "b := b * 3;"},
	{"VAR c : BOOL := TRUE; END_VAR", "c := NOT c;"},
	{"VAR d : ARRAY[1..5] OF INT := 2; END_VAR VAR i : INT; END_VAR", "FOR i := 5 TO 1 DO END_FOR; i := (i + 1) MOD 7; d[i] := d[i] + four(i);"},
	{"VAR t : ton; END_VAR", "t(in := TRUE, pt := T#20ms);"},
	{"VAR u : ctud; END_VAR", "u(cu := NOT u.qu, pv := 3);"},
	{"VAR s : sums; END_VAR", "s(n := twice(s.sum MOD 5));"},
	{"VAR RETAIN p : pair; END_VAR", "p(n := 2);"},
	{"VAR e : TIME := T#5s; END_VAR VAR w : WORD := 16#8001; END_VAR", "e := e + T#1ms; w := rol(w, 3);"},
	{"VAR q : ramp; h : hyst; END_VAR", "q(x := 100, step := 7); h(x := q.y, hi := 50, lo := 20);"},
}

// made: the code of a program that has these parts, in this order; the program is the last unit.
func made(t *testing.T, chosen []int) (api.Code, int) {
	t.Helper()
	var heads, body strings.Builder
	for _, i := range chosen {
		heads.WriteString(parts[i].heads + " ")
		body.WriteString(parts[i].list + " ")
	}
	units, f := source.Parse(ahead + "PROGRAM main " + heads.String() + body.String() + "END_PROGRAM")
	if f != (api.Fault{}) {
		t.Fatal(chosen, f)
	}
	c, f := code.Compile(units, nil)
	if f != (api.Fault{}) {
		t.Fatal(chosen, f)
	}
	return c, len(c.Procs) - 1
}

// runs: a frame behind so many runs, from a time on.
func runs(t *testing.T, c api.Code, unit int, frame []int, from, times int) []int {
	t.Helper()
	for i := range times {
		r := code.Run(c, unit, frame, from+i)
		if r.Code != api.OK {
			t.Fatal(r)
		}
		frame = r.Frame
	}
	return frame
}

// values: what each variable has, by its path, kind and number of elements.
func values(p api.Proc, frame []int) map[string]string {
	l := map[string]string{}
	for _, s := range p.Slots {
		l[fmt.Sprint(s.Path, " ", s.Kind, " ", s.Len)] = fmt.Sprint(frame[s.At : s.At+max(s.Len, 1)])
	}
	return l
}

// shuffled: some of the parts, in any order.
func shuffled(d *die) []int {
	l := upTo(0, len(parts))
	for i := range l {
		j := d.n(i + 1)
		l[i], l[j] = l[j], l[i]
	}
	return l[:1+d.n(len(l))]
}

// carried: what goes over where both units may be carried.
func carried(t *testing.T, old api.Proc, frame []int, now api.Proc) api.Carried {
	t.Helper()
	c, e := change.Carry(old, frame, now)
	if e != api.OK || len(c.Frame) != len(now.First) {
		t.Fatal(e, len(c.Frame), len(now.First))
	}
	return c
}

// A unit that is carried over to itself has all its values still, and goes on as if nothing had been.
func TestToItself(t *testing.T) {
	d := die(3)
	for range 150 {
		c, last := made(t, shuffled(&d))
		frame, now := c.Procs[last].First, d.n(1000)
		for range 5 {
			n := d.n(12)
			frame, now = runs(t, c, last, frame, now, n), now+n
			got := carried(t, c.Procs[last], frame, c.Procs[last])
			if len(got.Lost)+len(got.Fresh) > 0 || fmt.Sprint(values(c.Procs[last], got.Frame)) != fmt.Sprint(values(c.Procs[last], frame)) {
				t.Fatal(got, frame)
			}
			if on := runs(t, c, last, got.Frame, now, 9); !slices.Equal(on, runs(t, c, last, frame, now, 9)) {
				t.Fatal(on)
			}
			frame = got.Frame
		}
	}
}

// All units that Compile makes may be carried, functions and blocks too.
func TestEachUnit(t *testing.T) {
	c, _ := made(t, upTo(0, len(parts)))
	for _, p := range c.Procs {
		frame := upTo(1000, len(p.First))
		want := slices.Clone(p.First)
		for _, s := range p.Slots {
			for i := s.At; i < s.At+max(s.Len, 1); i++ {
				want[i] = frame[i]
			}
		}
		carries(t, p, frame, p, want, nil, nil)
	}
}

// What both units know goes over, and back, unharmed; all else of the new one is as at first; what is lost and fresh is what one of them has alone.
func TestThereAndBack(t *testing.T) {
	d := die(8)
	both, alone := 0, 0
	for range 300 {
		c1, last1 := made(t, shuffled(&d))
		c2, last2 := made(t, shuffled(&d))
		old, now := c1.Procs[last1], c2.Procs[last2]
		frame := runs(t, c1, last1, old.First, 0, 1+d.n(30))
		there := carried(t, old, frame, now)
		back := carried(t, now, there.Frame, old)
		was, is, again := values(old, frame), values(now, there.Frame), values(old, back.Frame)
		first, firstOld := values(now, now.First), values(old, old.First)
		for k, v := range is {
			if w, ok := was[k]; ok && v != w || !ok && v != first[k] {
				t.Fatal(k, v, w, first[k])
			}
		}
		for k, v := range again {
			if _, ok := is[k]; ok && v != was[k] || !ok && v != firstOld[k] {
				t.Fatal(k, v, was[k], firstOld[k])
			}
			if _, ok := is[k]; ok {
				both++
			}
		}
		if !slices.Equal(there.Lost, back.Fresh) || !slices.Equal(there.Fresh, back.Lost) || !slices.Equal(there.Lost, paths(old, first)) || !slices.Equal(there.Fresh, paths(now, firstOld)) {
			t.Fatal(there, back)
		}
		alone += len(there.Lost) + len(there.Fresh)
	}
	if min(both, alone) < 1000 {
		t.Error("too few of each kind: ", both, alone)
	}
}

// paths: those of the slots of which others have none.
func paths(p api.Proc, others map[string]string) []string {
	var l []string
	for _, s := range p.Slots {
		if _, ok := others[fmt.Sprint(s.Path, " ", s.Kind, " ", s.Len)]; !ok {
			l = append(l, s.Path)
		}
	}
	return l
}

// A program that has more variables, ahead of the old ones, counts on where the old one stopped.
func TestGoesOn(t *testing.T) {
	old, last := made(t, []int{0, 6, 4})
	now, _ := made(t, []int{9, 4, 8, 0, 3, 6})
	frame := runs(t, old, last, old.Procs[last].First, 0, 25)
	got := carried(t, old.Procs[last], frame, now.Procs[last])
	on := values(now.Procs[last], runs(t, now, last, got.Frame, 25, 10))
	for k, v := range values(old.Procs[last], runs(t, old, last, frame, 25, 10)) {
		if on[k] != v {
			t.Error(k, on[k], v)
		}
	}
}
