package plant_test

import (
	"fmt"
	"math"
	"slices"
	"testing"

	"plantwright/api"
	"plantwright/code"
)

// counting: programs that count their runs, each with its task.
func counting(tasks ...api.Task) api.Plan {
	p := small()
	p.Text = ""
	for _, t := range tasks {
		p.Text += fmt.Sprintf("PROGRAM %s VAR n : DINT; END_VAR n := n + 1; END_PROGRAM ", t.Name)
	}
	p.Tasks = tasks
	return p
}

// A task's moment is its Offset, and each Period behind it.
func TestMoments(t *testing.T) {
	p := counting(
		api.Task{Name: "a", Period: 1000, Deadline: 1000}, api.Task{Name: "b", Period: 2000, Deadline: 1000}, api.Task{Name: "c", Period: 3000, Offset: 1000, Deadline: 1000},
		api.Task{Name: "d", Period: 2000, Offset: 5000, Deadline: 1000}, api.Task{Name: "e", Period: 7000, Offset: 7000, Deadline: 1000}, api.Task{Name: "f", Period: 1000000, Offset: 3000, Deadline: 1000},
	)
	s := begun(t, p)
	for now := range 40 {
		x := ticked(t, p, s, false).State
		for i, task := range p.Tasks {
			runs := 0
			for at := task.Offset / 1000; at <= now; at += task.Period / 1000 {
				runs++
			}
			alike(t, fmt.Sprint(task.Name, " behind ", now), x.Frames[i], list(runs))
		}
		s = x
	}
}

// Moments far from the beginning: the last one of all, and around an Offset that is the greatest.
func TestFarMoments(t *testing.T) {
	p := counting(api.Task{Name: "a", Period: 1000000, Offset: 294000, Deadline: 1000}, api.Task{Name: "b", Period: 7000, Offset: 1000000, Deadline: 1000})
	for _, x := range []struct{ now, a, b int }{
		{4294967294, 1, 0}, {4294967293, 0, 0}, {4294966294, 1, 0}, {293, 0, 0}, {294, 1, 0}, {1294, 1, 1}, {993, 0, 0}, {986, 0, 0}, {1000, 0, 1}, {1001, 0, 0}, {1006, 0, 0}, {1007, 0, 1}, {0, 0, 0},
	} {
		s := with(begun(t, p), func(s *api.State) { s.Now = x.now })
		alike(t, fmt.Sprint(x.now), ticked(t, p, s, false).State.Frames, [][]int{{x.a}, {x.b}})
	}
}

// Programs run in the order of Build, and each sees what those ahead of it have left; a program that is earlier in the text may run later.
func TestRunsInOrder(t *testing.T) {
	p := small()
	p.Text = `PROGRAM one VAR_EXTERNAL x, y : DINT; END_VAR x := y + 1; END_PROGRAM
		PROGRAM two VAR_EXTERNAL x, y : DINT; END_VAR y := x * 10; END_PROGRAM
		PROGRAM three VAR_EXTERNAL x, y : DINT; END_VAR VAR seen : DINT; END_VAR seen := x * 1000 + y; END_PROGRAM`
	p.Globals = append(p.Globals, global("x", api.Dint, api.Memory), global("y", api.Dint, api.Memory))
	for _, x := range []struct {
		deadlines []int
		want      []int
	}{
		{list(100, 200, 300), list(1, 10, 1010, 11, 110, 11110)},
		{list(200, 100, 300), list(1, 0, 1000, 11, 10, 11010)},
		{list(200, 300, 100), list(1, 10, 0, 11, 110, 1010)},
		{list(100, 300, 200), list(1, 10, 1000, 11, 110, 11010)},
		{list(100, 100, 100), list(1, 10, 1010, 11, 110, 11110)},
	} {
		p.Tasks = nil
		for i, name := range list("one", "two", "three") {
			p.Tasks = append(p.Tasks, api.Task{Name: name, Period: 1000, Deadline: x.deadlines[i]})
		}
		s := begun(t, p)
		var got []int
		for range 2 {
			s = ticked(t, p, s, false).State
			got = append(got, value(p, s, "x"), value(p, s, "y"), variable(t, p, s, "three", "seen")[0])
		}
		alike(t, fmt.Sprint(x.deadlines), got, x.want)
	}
}

// What came in a tick is what programs run with in that tick; what they write is told in it.
func TestRunsBehindWhatCame(t *testing.T) {
	p := small()
	s := begun(t, p)
	x := ticked(t, p, s, false, frame(4, 1, 1, 0))
	alike(t, "told", opened(x.Frames), "4 0 [50]")
	alike(t, "values", x.State.Values, list(1, 0, 50))
	alike(t, "frame", x.State.Frames, [][]int{{1, 50, 1}})
}

// A run is at the time Now: timers go by it.
func TestRunsAtNow(t *testing.T) {
	p := small()
	p.Text = "PROGRAM p VAR t : ton; END_VAR t(in := TRUE, pt := T#1h); END_PROGRAM"
	for _, now := range []int{0, 2, 1000, 4294967294} {
		s := with(begun(t, p), func(s *api.State) { s.Now = now })
		s = ticked(t, p, s, false).State
		alike(t, fmt.Sprint(now), variable(t, p, s, "p", "t.%since"), list(now))
	}
	s := begun(t, p)
	for range 11 {
		s = ticked(t, p, s, false).State
	}
	alike(t, "elapsed", variable(t, p, s, "p", "t.et"), list(10))
}

// Extern variables have the globals' values ahead of a run, whatever they had; only globals ToField and Memory have theirs behind it.
func TestRunsWithGlobals(t *testing.T) {
	p := small()
	p.Text = `PROGRAM p VAR_EXTERNAL run : BOOL; speed : INT; mem : DINT; set : TIME; END_VAR VAR a : BOOL; b : INT; c : DINT; d : TIME; END_VAR
		a := run; b := speed; c := mem; d := set; END_PROGRAM`
	p.Globals = append(p.Globals, global("mem", api.Dint, api.Memory), global("set", api.Time, api.Setting))
	s := with(begun(t, p), func(s *api.State) { s.Values = list(0, 1, -7, 100000, 77) })
	for i := range s.Frames[0] {
		s.Frames[0][i] = 99
	}
	x := ticked(t, p, s, false, frame(4, 1, 1, 0)).State
	alike(t, "values", x.Values, list(1, 0, -7, 100000, 77))
	alike(t, "frame", x.Frames[0], list(1, -7, 100000, 77, 1, -7, 100000, 77))
}

// A program that does not run gives nothing out, and keeps its frame.
func TestRunsNot(t *testing.T) {
	p := small()
	s := with(begun(t, p), func(s *api.State) { s.Now = 1; s.Frames[0] = list(9, 1<<40, -5); s.Values[2] = 123; s.Faults = 4 })
	x := ticked(t, p, s, false, frame(4, 1, 1, 0)).State
	alike(t, "frame", x.Frames[0], list(9, 1<<40, -5))
	alike(t, "values", x.Values, list(1, 0, 123))
	alike(t, "faults", x.Faults, 4)
	p.Text += " PROGRAM q VAR_EXTERNAL speed : INT; END_VAR VAR n : INT; END_VAR n := speed; END_PROGRAM" // without a task
	s = begun(t, p)
	for range 5 {
		s = ticked(t, p, s, false).State
	}
	alike(t, "frame", s.Frames[1], list(0, 0))
}

// What goes out is wrapped into the global's kind; the frame stays as it is.
func TestRunsWrap(t *testing.T) {
	for _, x := range []struct {
		kind string
		k    api.Kind
		have int
		want int
	}{
		{"BOOL", api.Bool, 2, 0}, {"BOOL", api.Bool, 3, 1}, {"INT", api.Int, 40000, -25536}, {"INT", api.Int, 1 << 40, 0}, {"DINT", api.Dint, 1<<32 + 5, 5}, {"DINT", api.Dint, math.MinInt32 - 1, math.MaxInt32},
		{"WORD", api.Word, -1, 65535}, {"WORD", api.Word, 65536, 0}, {"TIME", api.Time, -1, 4294967295}, {"TIME", api.Time, math.MaxInt, 4294967295},
	} {
		for _, dir := range []api.Dir{api.ToField, api.Memory} {
			p := small()
			p.Text = fmt.Sprintf("PROGRAM p VAR_EXTERNAL x : %s; END_VAR VAR v : %s; END_VAR x := v; END_PROGRAM", x.kind, x.kind)
			p.Globals = append(p.Globals, global("x", x.k, dir))
			s := with(begun(t, p), func(s *api.State) { s.Frames[0] = list(0, x.have) })
			got := ticked(t, p, s, false).State
			alike(t, fmt.Sprint(x), []any{value(p, got, "x"), got.Frames[0]}, []any{x.want, list(x.have, x.have)})
		}
	}
}

// Faults of all runs of a tick are counted, and stay at MaxNumber.
func TestFaultsAreCounted(t *testing.T) {
	p := small()
	p.Text = `PROGRAM a VAR n, i : INT; END_VAR FOR i := 1 TO 3 DO n := 1 / 0; END_FOR; END_PROGRAM
		PROGRAM b VAR x : ARRAY[1..2] OF INT; i : INT := 5; END_VAR x[i] := 1; i := x[i]; i := 5; WHILE TRUE MAX 2 DO END_WHILE; END_PROGRAM`
	p.Tasks = []api.Task{{Name: "a", Period: 1000, Deadline: 1000}, {Name: "b", Period: 2000, Offset: 1000, Deadline: 1000}}
	s := begun(t, p)
	for _, want := range []int{3, 9, 12, 18} {
		s = ticked(t, p, s, false).State
		alike(t, "faults", s.Faults, want)
	}
	for _, x := range [][2]int{{api.MaxNumber - 4, api.MaxNumber - 1}, {api.MaxNumber - 3, api.MaxNumber}, {api.MaxNumber - 2, api.MaxNumber}, {api.MaxNumber, api.MaxNumber}} {
		s.Faults = x[0]
		alike(t, "faults", ticked(t, p, s, false).State.Faults, x[1])
	}
}

// A tick does to each program just what code.Run does.
func TestRunsAsCode(t *testing.T) {
	p := large()
	b := taken(t, p)
	s := heard(t, p)
	for now := range 13 {
		x := ticked(t, p, s, false, frame(4, 11+now, now%2, 7*now, 40000+now, 65535), frame(7, 21+now, 3*now, now, 1, 0), frame(0, 31+now, now/3%2)).State
		values := slices.Clone(x.Values)
		copy(values[8:13], s.Values[8:13]) // what programs write is as it was
		values[0], values[14] = s.Values[0], s.Values[14]
		faults := s.Faults
		for i, task := range b.Tasks {
			unit := b.Places[i]
			want := slices.Clone(s.Frames[unit])
			if (s.Now*1000-task.Offset)%task.Period == 0 && s.Now*1000 >= task.Offset {
				place := func(path string) int {
					return slices.IndexFunc(p.Globals, func(g api.Global) bool { return g.Name == path })
				}
				for _, slot := range b.Code.Procs[unit].Slots {
					if slot.Role == api.Extern {
						want[slot.At] = values[place(slot.Path)]
					}
				}
				ran := code.Run(b.Code, unit, want, s.Now)
				want = ran.Frame
				faults += ran.Faults
				for _, slot := range b.Code.Procs[unit].Slots {
					if slot.Role == api.Extern {
						values[place(slot.Path)] = want[slot.At]
					}
				}
			}
			alike(t, fmt.Sprint(task.Name, " at ", s.Now), x.Frames[unit], want)
		}
		alike(t, "values", x.Values, values)
		alike(t, "faults", x.Faults, faults)
		s = x
	}
	if s.Faults == 0 {
		t.Error("no faults were counted")
	}
}
