package plant_test

import (
	"fmt"
	"math"
	"slices"
	"strings"
	"testing"

	"plantwright/api"
)

// wrong: a plan of which something is wrong, and what.
type wrong struct {
	what  string
	alter func(*api.Plan)
	code  api.Errno
	unit  int
	at    int
}

// The faults of a plan, part by part, in the order in which they are told.
func faults() []wrong {
	l := []wrong{
		{"text", func(p *api.Plan) { p.Text = strings.Replace(p.Text, "END_FUNCTION_BLOCK", "; END_FUNCTION_BLOCK", 1) }, api.ErrText, 1, strings.Index(largeText, "END_FUNCTION_BLOCK")},
		{"ladder", func(p *api.Plan) { p.Ladders = append(p.Ladders, "LADDER l RUNG ]") }, api.ErrText, 5, 14},
		{"diagram", func(p *api.Plan) { p.Diagrams = append(p.Diagrams, "DIAGRAM d a := b; b := a; END_DIAGRAM") }, api.ErrLoop, 6, 10},
		{"globals", func(p *api.Plan) { p.Globals[5].Dir = 0 }, api.ErrPlan, 0, 5},
		{"names", func(p *api.Plan) { p.Diagrams[0] = strings.Replace(p.Diagrams[0], "delay := wait", "delay := what", 1) }, api.ErrName, 5, strings.Index(largeDiagram, "wait + ")},
	}
	l = append(l, faultsOfTasks()...)
	l = append(l, faultsOfField()...)
	return append(l,
		wrong{"guard", func(p *api.Plan) { p.Guard.Sensors = 0 }, api.ErrSize, 0, 0},
		wrong{"delay", func(p *api.Plan) { p.Guard.Delay = -1 }, api.ErrRange, 0, 0},
		wrong{"vote", func(p *api.Plan) { p.Guard.Votes[1].Of[0] = 3 }, api.ErrName, 1, 0},
		wrong{"sensors", func(p *api.Plan) { p.Sensors = append(p.Sensors, "go") }, api.ErrSize, 0, 0},
		wrong{"sensor", func(p *api.Plan) { p.Sensors[1] = "lamp" }, api.ErrName, 1, 0},
		wrong{"later sensor", func(p *api.Plan) { p.Sensors[2] = "alone" }, api.ErrName, 2, 0},
	)
}

func faultsOfTasks() []wrong {
	return []wrong{
		{"tasks", func(p *api.Plan) { p.Tasks = append(p.Tasks, make([]api.Task, 13)...) }, api.ErrSize, 0, 0},
		{"task's name", func(p *api.Plan) { p.Tasks[0].Name = "gate" }, api.ErrName, 0, 0},
		{"period", func(p *api.Plan) { p.Tasks[0].Period = 4001 }, api.ErrPlan, 0, 0},
		{"step", func(p *api.Plan) { p.Step = 1001 }, api.ErrRange, 0, 0},
		{"short", func(p *api.Plan) { p.Tasks[0].Period = 0 }, api.ErrSlow, 0, 0},
		{"later name", func(p *api.Plan) { p.Tasks[1].Name = "none" }, api.ErrName, 1, 0},
		{"task twice", func(p *api.Plan) { p.Tasks[2].Name = "masks" }, api.ErrTwice, 2, 0},
		{"offset", func(p *api.Plan) { p.Tasks[3].Offset = -1 }, api.ErrPlan, 3, 0},
		{"order", func(p *api.Plan) { p.Tasks[2].Deadline = 1001 }, api.ErrPlan, 2, 0},
		{"slow", func(p *api.Plan) { p.Tasks[3].Deadline = 1 }, api.ErrSlow, 3, 0},
	}
}

func faultsOfField() []wrong {
	return []wrong{
		{"stations", func(p *api.Plan) { p.Field = append(p.Field, make([]api.Station, 29)...) }, api.ErrSize, 0, 0},
		{"number", func(p *api.Plan) { p.Field[0].Number = 248 }, api.ErrRange, 0, 0},
		{"tells none", func(p *api.Plan) { p.Field[0].Tells[0] = "none" }, api.ErrName, 0, 0},
		{"tells another's", func(p *api.Plan) { p.Field[0].Tells[1] = "speed" }, api.ErrWrite, 0, 0},
		{"tells twice", func(p *api.Plan) { p.Field[0].Tells[2] = "go" }, api.ErrTwice, 0, 0},
		{"takes none", func(p *api.Plan) { p.Field[0].Takes[0] = "none" }, api.ErrName, 0, 0},
		{"takes another's", func(p *api.Plan) { p.Field[0].Takes[1] = "sum" }, api.ErrWrite, 0, 0},
		{"safe", func(p *api.Plan) { p.Field[0].Safe = p.Field[0].Safe[:2] }, api.ErrSize, 0, 0},
		{"safe's range", func(p *api.Plan) { p.Field[0].Safe[2] = 1 << 31 }, api.ErrRange, 0, 0},
		{"watch", func(p *api.Plan) { p.Field[1].Watch = 0 }, api.ErrRange, 1, 0},
		{"number twice", func(p *api.Plan) { p.Field[2].Number = 7 }, api.ErrTwice, 2, 0},
		{"takes what is taken", func(p *api.Plan) { p.Field[3].Takes = list("speed") }, api.ErrTwice, 3, 0},
	}
}

// Each fault alone, and of each two the one that is named first.
func TestFaults(t *testing.T) {
	taken(t, large())
	all := faults()
	for i, a := range all {
		p := with(large(), a.alter)
		refused(t, p, a.code, a.unit, a.at)
		for _, b := range all[i+1:] {
			both := with(with(large(), b.alter), a.alter)
			if got := faultOf(both); got != (api.Fault{Code: a.code, Unit: a.unit, At: a.at}) {
				t.Errorf("%s and %s: %v", a.what, b.what, got)
			}
		}
	}
}

// all: the same fault of each of these.
func all(t *testing.T, code api.Errno, unit, at int, alter ...func(*api.Plan)) {
	t.Helper()
	for _, a := range alter {
		refused(t, with(small(), a), code, unit, at)
	}
}

// The faults of units: those of Parse, of Read, of Compile.
func TestFaultsOfUnits(t *testing.T) {
	end := len(small().Text)
	all(t, api.ErrText, 1, end+1, func(p *api.Plan) { p.Text += " x" })
	all(t, api.ErrText, 0, end+1, func(p *api.Plan) { p.Text += "x" })
	all(t, api.ErrText, 0, 0, func(p *api.Plan) { p.Text = "" }, func(p *api.Plan) { p.Text = "\xff" }, func(p *api.Plan) { *p = api.Plan{} })
	all(t, api.ErrText, 0, 2, func(p *api.Plan) { p.Text = "  "; p.Ladders = list(largeLadder) })
	all(t, api.ErrSize, 0, 0, func(p *api.Plan) { p.Text += strings.Repeat(" ", api.MaxText) })
	all(t, api.ErrText, 1, 13, func(p *api.Plan) { p.Ladders = list("LADDER l RUNG") })
	all(t, api.ErrText, 1, 0, func(p *api.Plan) { p.Ladders = list("") }, func(p *api.Plan) { p.Diagrams = list("") }, func(p *api.Plan) { p.Ladders = list("DIAGRAM d END_DIAGRAM") }, func(p *api.Plan) { p.Diagrams = list("LADDER l END_LADDER") })
	all(t, api.ErrSize, 1, 0, func(p *api.Plan) { p.Ladders = list(strings.Repeat(" ", api.MaxText+1)) })
	all(t, api.ErrLoop, 1, 10, func(p *api.Plan) { p.Diagrams = list("DIAGRAM d a := a; END_DIAGRAM") })
	all(t, api.ErrKind, 0, strings.Index(small().Text, "run"), func(p *api.Plan) { p.Globals[0].Kind = api.Int })
	all(t, api.ErrWrite, 0, strings.Index(small().Text, "speed := 50"), func(p *api.Plan) { p.Globals[2].Dir = api.Setting })
	all(t, api.ErrTwice, 1, 0, func(p *api.Plan) { p.Ladders = list("LADDER p END_LADDER") }, func(p *api.Plan) { p.Diagrams = list("DIAGRAM p END_DIAGRAM") })
	all(t, api.ErrTwice, 2, 1, func(p *api.Plan) { p.Ladders, p.Diagrams = list("LADDER l END_LADDER"), list(" DIAGRAM l END_DIAGRAM") })
	all(t, api.ErrPlan, 0, 3, func(p *api.Plan) { p.Globals = append(p.Globals, p.Globals[0]) })
	all(t, api.ErrPlan, 0, 64, func(p *api.Plan) {
		for i := len(p.Globals); i < 66; i++ {
			p.Globals = append(p.Globals, global(fmt.Sprint("g", i), api.Bool, api.Memory))
		}
	})
	all(t, api.ErrSlow, 1, end+1, func(p *api.Plan) {
		p.Text += " PROGRAM q VAR i, j, k : INT; END_VAR FOR i := 1 TO 10000 DO FOR j := 1 TO 10000 DO FOR k := 1 TO 3 DO END_FOR; END_FOR; END_FOR; END_PROGRAM"
	})
}

// Whatever is wrong with a drawing is told with how many units stand ahead of it, of all kinds.
func TestFaultsOfDrawings(t *testing.T) {
	for texts := range 4 {
		for ladders := range 4 {
			for diagrams := range 4 {
				p := small()
				for i := range texts {
					p.Text += fmt.Sprintf(" PROGRAM t%d END_PROGRAM", i)
				}
				for i := range ladders {
					p.Ladders = append(p.Ladders, fmt.Sprintf("LADDER l%d END_LADDER", i))
				}
				for i := range diagrams {
					p.Diagrams = append(p.Diagrams, fmt.Sprintf("DIAGRAM d%d END_DIAGRAM", i))
				}
				taken(t, p)
				bad := with(p, func(p *api.Plan) { p.Diagrams = append(p.Diagrams, "DIAGRAM d ;") })
				refused(t, bad, api.ErrText, 1+texts+ladders+diagrams, 10)
				bad.Ladders = append(bad.Ladders, " LADDER l ;")
				refused(t, bad, api.ErrText, 1+texts+ladders, 10)
			}
		}
	}
}

// Too many units of all kinds: Compile tells it, behind what is wrong with a drawing, however many there are.
func TestTooManyUnits(t *testing.T) {
	many := func(n int) func(*api.Plan) {
		return func(p *api.Plan) {
			for i := range n {
				p.Ladders = append(p.Ladders, fmt.Sprintf("LADDER l%d END_LADDER", i))
			}
		}
	}
	taken(t, with(small(), many(15)))
	all(t, api.ErrSize, 16, 0, many(16), many(17), many(40), func(p *api.Plan) { many(15)(p); p.Diagrams = list("DIAGRAM d END_DIAGRAM") })
	all(t, api.ErrText, 41, 9, func(p *api.Plan) { many(40)(p); p.Diagrams = list("DIAGRAM d") })
	all(t, api.ErrPlan, 0, 1, func(p *api.Plan) { many(40)(p); p.Globals[1].Name = "End_If" })
	all(t, api.ErrTwice, 1, 0, func(p *api.Plan) { many(15)(p); p.Ladders[0] = "LADDER ton END_LADDER" })
}

func TestFaultsOfTaskLists(t *testing.T) {
	all(t, api.ErrSize, 0, 0,
		func(p *api.Plan) { p.Tasks = nil }, func(p *api.Plan) { p.Tasks = []api.Task{} }, func(p *api.Plan) { p.Tasks, p.Step = nil, 0 },
		func(p *api.Plan) { p.Tasks = slices.Repeat(p.Tasks, 17) }, func(p *api.Plan) { p.Tasks = make([]api.Task, 17) }, func(p *api.Plan) { p.Tasks = make([]api.Task, 100000) },
	)
	all(t, api.ErrTwice, 1, 0, func(p *api.Plan) { p.Tasks = slices.Repeat(p.Tasks, 16) }, func(p *api.Plan) { p.Tasks = slices.Repeat(p.Tasks, 2) })
	all(t, api.ErrName, 0, 0, func(p *api.Plan) { p.Tasks = make([]api.Task, 16) })
}

func TestFaultsOfTaskNames(t *testing.T) {
	for _, name := range []string{"", "q", "P", "p ", "pp", "program", "%0", "\xff", "run", "ton", "abs"} {
		all(t, api.ErrName, 0, 0, func(p *api.Plan) { p.Tasks[0].Name = name }, func(p *api.Plan) { p.Tasks[0] = api.Task{Name: name, Period: 1, Offset: 1}; p.Step = 0 })
	}
	p := large()
	for _, name := range []string{"half", "gate", "x", "main.g"} {
		p.Tasks[1].Name = name
		refused(t, p, api.ErrName, 1, 0)
	}
}

// Of a task: its name, then that it is there twice, then its times, then the step, then its cost.
func TestFaultsOfOneTask(t *testing.T) {
	two := func(p *api.Plan) { p.Tasks = append(p.Tasks, p.Tasks[0]) }
	all(t, api.ErrTwice, 1, 0, func(p *api.Plan) { two(p); p.Tasks[1].Period = 1 }, func(p *api.Plan) { two(p); p.Tasks[1].Offset = 1 }, func(p *api.Plan) { two(p); p.Tasks[1].Period = 0 })
	all(t, api.ErrRange, 0, 0, func(p *api.Plan) { two(p); p.Step = 0 }, func(p *api.Plan) { p.Step, p.Tasks[0].Period = 0, 0 }, func(p *api.Plan) { p.Step, p.Tasks[0].Deadline = 0, 0 })
	for _, n := range []int{1, 999, 1001, 1500, 1999, 2001, 2500, -1, -999, -1500, 1000001, math.MinInt, math.MaxInt} {
		all(t, api.ErrPlan, 0, 0, func(p *api.Plan) { p.Tasks[0].Period = n }, func(p *api.Plan) { p.Tasks[0].Offset = n }, func(p *api.Plan) { p.Tasks[0].Offset, p.Step = n, 0 }, func(p *api.Plan) { p.Tasks[0].Period, p.Tasks[0].Offset = n, n })
	}
	for _, n := range []int{0, -1, 1001, 2000, math.MinInt, math.MaxInt, 1 << 32, 1<<32 + 1} {
		all(t, api.ErrRange, 0, 0, func(p *api.Plan) { p.Step = n })
	}
	for _, n := range []int{0, -1000, -1000000, math.MinInt / 1000 * 1000} {
		all(t, api.ErrSlow, 0, 0, func(p *api.Plan) { p.Tasks[0].Period = n }, func(p *api.Plan) { p.Tasks[0].Period, p.Tasks[0].Offset, p.Tasks[0].Deadline = n, n, n })
	}
}

// A cost may be as long as the period, not longer.
func TestFaultsOfCosts(t *testing.T) {
	p := small()
	p.Text, p.Tasks[0] = steps("p", 1000), api.Task{Name: "p", Period: 1000, Deadline: 1000}
	alike(t, "replies", taken(t, p).Replies, list(1000))
	p.Text = steps("p", 1002)
	refused(t, p, api.ErrSlow, 0, 0)
	p.Step = 998
	alike(t, "replies", taken(t, p).Replies, list(1000))
	p.Step = 999
	refused(t, p, api.ErrSlow, 0, 0)
	p.Tasks[0].Period = 2000
	refused(t, p, api.ErrSlow, 0, 0)
	p.Tasks[0].Deadline = 1001
	alike(t, "replies", taken(t, p).Replies, list(1001))
}

// What Order tells of the list comes behind all that is wrong with any task alone; places are those of the plan.
func TestFaultsOfOrder(t *testing.T) {
	all(t, api.ErrSlow, 0, 0, func(p *api.Plan) { p.Tasks[0].Deadline = 10 }, func(p *api.Plan) { p.Tasks[0].Deadline = 5 }, func(p *api.Plan) { p.Tasks[0].Deadline = 1 })
	all(t, api.ErrPlan, 0, 0,
		func(p *api.Plan) { p.Tasks[0].Deadline = 2001 }, func(p *api.Plan) { p.Tasks[0].Deadline = 0 }, func(p *api.Plan) { p.Tasks[0].Deadline = -1 },
		func(p *api.Plan) { p.Tasks[0].Offset = -1000 }, func(p *api.Plan) { p.Tasks[0].Offset = 1001000 }, func(p *api.Plan) { p.Tasks[0].Period = 1001000 },
		func(p *api.Plan) { p.Text, p.Tasks[0].Period = "PROGRAM p END_PROGRAM", 0 }, // its cost is 0, not above its Period
	)
	all(t, api.ErrSlow, 0, 0, func(p *api.Plan) { p.Text, p.Tasks[0].Period = "PROGRAM p END_PROGRAM", -1000 })
	p := small()
	p.Text = steps("a", 600) + steps("b", 600) + steps("c", 2)
	p.Tasks = []api.Task{{Name: "a", Period: 1000, Deadline: 1000}, {Name: "c", Period: 1000, Deadline: 3}, {Name: "b", Period: 1000, Deadline: 900}}
	refused(t, p, api.ErrSlow, 0, 0)
	p.Tasks[0].Deadline = 900
	refused(t, p, api.ErrSlow, 2, 0)
	p.Tasks[0].Offset = -1000
	refused(t, p, api.ErrPlan, 0, 0)
	p.Tasks[2].Name = "d"
	refused(t, p, api.ErrName, 2, 0)
	p.Tasks[2].Name = "c"
	refused(t, p, api.ErrTwice, 2, 0)
}
