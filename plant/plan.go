package plant

import (
	"plantwright/api"
	"plantwright/code"
	"plantwright/ladder"
	"plantwright/safety"
	"plantwright/source"
	"plantwright/tasks"
	"plantwright/wires"
)

// millisecond, in the microseconds of tasks: programs run from one to the next.
const millisecond = 1000

// maxStep: nanoseconds of a step of code.
const maxStep = 1000

// plant is a plan with what it becomes; globals, programs and stations are found by their names and numbers, and so are the stations that tell and take a global: all by their places.
type plant struct {
	plan     api.Plan
	built    api.Built
	globals  map[string]int
	programs map[string]int
	stations map[int]int
	tellers  map[string]int
	takers   map[string]int
}

// drawings of one kind, and what reads each of them.
type drawings struct {
	texts []string
	read  func(string) (api.Unit, api.Fault)
}

// planned: the plant of a plan, or the fault with which it was given up.
func planned(p api.Plan) (made *plant, fault api.Fault) {
	defer func() {
		if given := recover(); given != nil {
			made, fault = nil, given.(api.Fault)
		}
	}()
	made = &plant{
		plan: p, globals: map[string]int{}, programs: map[string]int{},
		stations: map[int]int{}, tellers: map[string]int{}, takers: map[string]int{},
	}
	made.takeUnits()
	made.takeTasks()
	made.takeField()
	made.takeGuard()
	return made, fault
}

// giveUp ends all planning: planned recovers.
func giveUp(e api.Errno, unit int) {
	panic(api.Fault{Code: e, Unit: unit})
}

// sound: a value that comes without a fault. With one all is given up.
func sound[T any](value T, fault api.Fault) T {
	if fault.Code != api.OK {
		panic(fault)
	}
	return value
}

func (p *plant) takeUnits() {
	units := sound(source.Parse(p.plan.Text))
	for _, d := range []drawings{{p.plan.Ladders, ladder.Read}, {p.plan.Diagrams, wires.Read}} {
		for _, text := range d.texts {
			unit, fault := d.read(text)
			fault.Unit = len(units)
			units = append(units, sound(unit, fault))
		}
	}
	p.built.Code = sound(code.Compile(units, p.plan.Globals))
	for i, g := range p.plan.Globals {
		p.globals[g.Name] = i
	}
	for i, proc := range p.built.Code.Procs {
		if proc.Kind == api.Program {
			p.programs[proc.Name] = i
		}
	}
}

func (p *plant) takeTasks() {
	if !isWithin(len(p.plan.Tasks), 1, api.MaxTasks) {
		giveUp(api.ErrSize, 0)
	}
	var weighed []api.Task
	ahead := map[string]int{}
	for i, t := range p.plan.Tasks {
		weighed = append(weighed, p.weigh(i, t, ahead))
		ahead[t.Name] = i
	}
	for _, place := range sound(tasks.Order(weighed)) {
		t := weighed[place]
		p.built.Tasks = append(p.built.Tasks, t)
		p.built.Places = append(p.built.Places, p.programs[t.Name])
	}
	p.built.Replies = sound(tasks.Respond(p.built.Tasks))
}

// weigh: the task at a place, with its cost; those ahead of it are known by their names.
func (p *plant) weigh(place int, t api.Task, ahead map[string]int) api.Task {
	program, known := p.programs[t.Name]
	_, twice := ahead[t.Name]
	switch {
	case !known:
		giveUp(api.ErrName, place)
	case twice:
		giveUp(api.ErrTwice, place)
	case t.Period%millisecond != 0 || t.Offset%millisecond != 0:
		giveUp(api.ErrPlan, place)
	case !isWithin(p.plan.Step, 1, maxStep):
		giveUp(api.ErrRange, place)
	}
	// Weigh has no error left: the code was compiled, the program is in it, and the step may be.
	cost, _ := tasks.Weigh(p.built.Code, program, p.plan.Step)
	if cost > t.Period {
		giveUp(api.ErrSlow, place)
	}
	t.Cost = max(cost, 1)
	return t
}

func (p *plant) takeGuard() {
	g := p.plan.Guard
	sound(g, safety.Check(g))
	if len(p.plan.Sensors) != g.Sensors {
		giveUp(api.ErrSize, 0)
	}
	for i, name := range p.plan.Sensors {
		if _, told := p.tellers[name]; !told || p.kindOf(name) != api.Bool {
			giveUp(api.ErrName, i)
		}
	}
}

// kindOf: that of a global that there is.
func (p *plant) kindOf(name string) api.Kind {
	return p.plan.Globals[p.globals[name]].Kind
}

func isWithin(n, low, high int) bool {
	return low <= n && n <= high
}
