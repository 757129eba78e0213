package plant_test

import (
	"strings"
	"testing"

	"plantwright/api"
	"plantwright/code"
	"plantwright/ladder"
	"plantwright/plant"
	"plantwright/source"
	"plantwright/tasks"
	"plantwright/wires"
)

// The document's example.
func TestBuildExample(t *testing.T) {
	b := taken(t, small())
	alike(t, "tasks", b.Tasks, []api.Task{{Name: "p", Period: 2000, Deadline: 2000, Cost: 11}})
	alike(t, "places", b.Places, list(0))
	alike(t, "replies", b.Replies, list(11))
	us, _ := source.Parse(small().Text)
	c, _ := code.Compile(us, small().Globals)
	alike(t, "code", b.Code, c)
}

// units: those of the large plan.
func units(t *testing.T, p api.Plan) []api.Unit {
	us, f := source.Parse(p.Text)
	for _, s := range p.Ladders {
		u, g := ladder.Read(s)
		us = append(us, u)
		f.Code += g.Code
	}
	for _, s := range p.Diagrams {
		u, g := wires.Read(s)
		us = append(us, u)
		f.Code += g.Code
	}
	if f.Code != api.OK {
		t.Fatal(f)
	}
	return us
}

// The code is that of all units: of the text, then of the ladders, then of the diagrams.
func TestBuildCode(t *testing.T) {
	p := large()
	p.Ladders = append(p.Ladders, "LADDER second VAR a : BOOL; END_VAR RUNG [a] => a; END_LADDER")
	p.Diagrams = append(p.Diagrams, "DIAGRAM last VAR a : INT; END_VAR a := 1; END_DIAGRAM")
	b := taken(t, p)
	c, f := code.Compile(units(t, p), p.Globals)
	if f.Code != api.OK {
		t.Fatal(f)
	}
	alike(t, "code", b.Code, c)
	var names []string
	for _, proc := range b.Code.Procs {
		names = append(names, proc.Name)
	}
	alike(t, "names", names, strings.Fields("half gate main side lamps second masks last"))
}

// The tasks stand by their Deadlines, then by their places; each has its cost, its program's place and its reply.
func TestBuildTasks(t *testing.T) {
	p := large()
	b := taken(t, p)
	bounds, _ := code.Verify(b.Code)
	cost := func(unit int) int { return (bounds[unit]*p.Step + 999) / 1000 }
	main, side, lamps, masks := cost(2), cost(3), cost(4), cost(5)
	alike(t, "tasks", b.Tasks, []api.Task{
		{Name: "lamps", Period: 1000, Deadline: 900, Cost: lamps}, {Name: "main", Period: 2000, Deadline: 1900, Cost: main},
		{Name: "side", Period: 3000, Offset: 1000, Deadline: 1900, Cost: side}, {Name: "masks", Period: 4000, Offset: 2000, Deadline: 4000, Cost: masks},
	})
	alike(t, "places", b.Places, list(4, 2, 3, 5))
	alike(t, "replies", b.Replies, list(lamps, lamps+main, lamps+main+side, lamps+main+side+masks))
	replies, _ := tasks.Respond(b.Tasks)
	alike(t, "replies", b.Replies, replies)
}

// What a plan says of costs is not looked at.
func TestBuildCostIsOwn(t *testing.T) {
	for _, cost := range []int{-1, 0, 1, 11, 12, 5000000} {
		p := with(small(), func(p *api.Plan) { p.Tasks[0].Cost = cost })
		alike(t, "tasks", taken(t, p).Tasks[0].Cost, 11)
	}
}

// steps: a program of so many steps.
func steps(name string, n int) string {
	return "PROGRAM " + name + " VAR v : INT; END_VAR " + strings.Repeat("v := 1; ", n/2) + "END_PROGRAM "
}

// A cost is rounded up, and 1 at least, though a program may have no steps.
func TestBuildCosts(t *testing.T) {
	for _, x := range []struct{ steps, nanoseconds, cost int }{
		{0, 1, 1}, {0, 1000, 1}, {2, 1, 1}, {2, 499, 1}, {2, 500, 1}, {2, 501, 2}, {2, 1000, 2}, {1000, 1, 1}, {1002, 1, 2}, {20, 999, 20}, {1000, 1000, 1000},
	} {
		p := small()
		p.Text, p.Step = steps("p", x.steps), x.nanoseconds
		b := taken(t, p)
		if b.Tasks[0].Cost != x.cost || b.Replies[0] != x.cost {
			t.Error(x, b.Tasks, b.Replies)
		}
	}
}

// Programs without a task, and functions and blocks, do no harm; a program may be the last or the first unit.
func TestBuildOtherUnits(t *testing.T) {
	p := small()
	p.Text = steps("a", 2) + steps("b", 4) + "FUNCTION f : INT VAR_INPUT x : INT; END_VAR END_FUNCTION " + steps("c", 6)
	for i, name := range list("a", "b", "", "c") {
		if name != "" {
			p.Tasks[0].Name = name
			b := taken(t, p)
			alike(t, name, list(b.Places[0], b.Tasks[0].Cost, len(b.Code.Procs)), list(i, 2*i+2-2*(i/3), 4))
		}
	}
}

// A plan without stations that take or tell anything but the sensors; all stations; all tasks; all units.
func TestBuildEdges(t *testing.T) {
	p := small()
	p.Text = ""
	p.Tasks = nil
	for i := range api.MaxUnits {
		name := "p" + string(rune('a'+i))
		p.Text += steps(name, 2)
		p.Tasks = append(p.Tasks, api.Task{Name: name, Period: 1000 * (1 + i%2), Deadline: 1000, Offset: 1000 * i})
	}
	for i := 1; i < api.MaxStations; i++ {
		p.Field = append(p.Field, api.Station{Number: 247 - i, Watch: 1})
	}
	b := taken(t, p)
	if len(b.Tasks) != api.MaxTasks || len(b.Code.Procs) != api.MaxUnits {
		t.Error(b.Tasks)
	}
	for i, r := range b.Replies {
		if r != 2*i+2 || b.Places[i] != i {
			t.Error(b.Replies, b.Places)
		}
	}
}

// The edges of what tasks, stations and steps may be.
func TestBuildTaken(t *testing.T) {
	for _, alter := range []func(*api.Plan){
		func(p *api.Plan) { p.Step = 1 },
		func(p *api.Plan) { p.Tasks[0].Period, p.Tasks[0].Deadline = 1000, 11 },
		func(p *api.Plan) { p.Tasks[0].Period, p.Tasks[0].Deadline = 1000000, 1000000 },
		func(p *api.Plan) { p.Tasks[0].Offset = 1000000 },
		func(p *api.Plan) { p.Field[0].Number = 0 },
		func(p *api.Plan) { p.Field[0].Number = api.MaxStation },
		func(p *api.Plan) { p.Field[0].Watch = 1 },
		func(p *api.Plan) { p.Field[0].Watch = api.MaxWatch },
		func(p *api.Plan) { p.Field[0].Takes = nil },
		func(p *api.Plan) { p.Field[0].Safe = list(1, 0) },
		func(p *api.Plan) { p.Field[0].Tells = list("stop"); p.Field[0].Safe = list(0) },
		func(p *api.Plan) { p.Guard.Delay = api.MaxDelay },
		func(p *api.Plan) { p.Guard.Sensors, p.Sensors = 2, list("stop", "stop") },
		func(p *api.Plan) { p.Guard.Sensors, p.Sensors = 2, list("run", "stop") },
		func(p *api.Plan) { p.Ladders, p.Diagrams = []string{}, []string{} },
		func(p *api.Plan) {
			p.Field = append(p.Field, api.Station{Number: 5, Watch: 1, Takes: p.Field[0].Takes})
			p.Field[0].Takes = []string{}
		},
	} {
		taken(t, with(small(), alter))
	}
}

// An answer hangs on the plan alone.
func TestBuildAgain(t *testing.T) {
	first := text(taken(t, large()))
	plant.Build(api.Plan{})
	if text(taken(t, large())) != first {
		t.Error("it is not as it was")
	}
}
