package plant_test

import (
	"fmt"
	"math"
	"slices"
	"testing"

	"plantwright/api"
	"plantwright/plant"
)

func faultOf(p api.Plan) api.Fault {
	_, f := plant.Build(p)
	return f
}

func TestFaultsOfStations(t *testing.T) {
	all(t, api.ErrSize, 0, 0,
		func(p *api.Plan) { p.Field = slices.Repeat(p.Field, 33) }, func(p *api.Plan) { p.Field = make([]api.Station, 33) }, func(p *api.Plan) { p.Field = make([]api.Station, 100000) },
	)
	all(t, api.ErrTwice, 1, 0, func(p *api.Plan) { p.Field = slices.Repeat(p.Field, 32) }, func(p *api.Plan) { p.Field = slices.Repeat(p.Field, 2) })
	for _, n := range []int{-1, 248, 255, 256, 260, 1 << 32, 1<<32 + 4, math.MinInt, math.MaxInt} {
		all(t, api.ErrRange, 0, 0, func(p *api.Plan) { p.Field[0].Number = n }, func(p *api.Plan) { p.Field[0] = api.Station{Number: n, Watch: 1, Tells: list("none")} })
		all(t, api.ErrRange, 1, 0, func(p *api.Plan) { p.Field = append(p.Field, api.Station{Number: n, Watch: 1}) })
	}
	for _, n := range []int{-1, 0, 1001, 65537, 1 << 32, 1<<32 + 3, math.MinInt, math.MaxInt} {
		all(t, api.ErrRange, 0, 0, func(p *api.Plan) { p.Field[0].Watch = n })
		all(t, api.ErrRange, 1, 0, func(p *api.Plan) { p.Field = append(p.Field, api.Station{Number: 5, Watch: n}) }, func(p *api.Plan) { p.Field = append(p.Field, api.Station{Number: 4, Watch: n}) })
	}
	all(t, api.ErrTwice, 1, 0, func(p *api.Plan) { p.Field = append(p.Field, api.Station{Number: 4, Watch: 1}) }, func(p *api.Plan) {
		p.Field = append(p.Field, api.Station{Number: 4, Watch: 1, Tells: list("none"), Takes: list("none")})
	})
	all(t, api.ErrTwice, 2, 0, func(p *api.Plan) {
		p.Field = append(p.Field, api.Station{Number: 5, Watch: 1}, api.Station{Number: 4, Watch: 1}, api.Station{Number: 999})
	})
}

// another: a plan with a second station, behind the first one.
func another(s api.Station) func(*api.Plan) {
	s.Number, s.Watch = 5, 1
	return func(p *api.Plan) { p.Field = append(p.Field, s) }
}

func TestFaultsOfNames(t *testing.T) {
	for _, name := range []string{"", "none", "RUN", "run ", "p", "hours", "%0", "\xff"} {
		all(t, api.ErrName, 0, 0, func(p *api.Plan) { p.Field[0].Tells[1] = name }, func(p *api.Plan) { p.Field[0].Takes[0] = name })
		all(t, api.ErrName, 1, 0, another(api.Station{Tells: list(name), Safe: list(0)}), another(api.Station{Takes: list(name)}))
	}
	all(t, api.ErrWrite, 0, 0,
		func(p *api.Plan) { p.Field[0].Tells[0] = "speed" }, func(p *api.Plan) { p.Field[0].Takes[0] = "run" },
		func(p *api.Plan) { p.Field[0].Tells = list("speed", "none") }, func(p *api.Plan) { p.Field[0].Tells, p.Field[0].Takes = list("speed", "speed"), list("none") },
	)
	for _, dir := range []api.Dir{api.FromField, api.ToField, api.Memory, api.Setting} {
		p := small()
		p.Globals = append(p.Globals, global("x", api.Bool, dir))
		tells, takes := with(p, another(api.Station{Tells: list("x"), Safe: list(0)})), with(p, another(api.Station{Takes: list("x")}))
		if dir == api.FromField {
			taken(t, tells)
		} else {
			refused(t, tells, api.ErrWrite, 1, 0)
		}
		if dir == api.ToField {
			taken(t, takes)
		} else {
			refused(t, takes, api.ErrWrite, 1, 0)
		}
	}
	all(t, api.ErrTwice, 0, 0, func(p *api.Plan) { p.Field[0].Tells[0] = "stop" }, func(p *api.Plan) { p.Field[0].Takes = list("speed", "speed") }, func(p *api.Plan) { p.Field[0].Tells = list("run", "run", "none") })
	all(t, api.ErrTwice, 1, 0, another(api.Station{Tells: list("run"), Safe: list(0)}), another(api.Station{Takes: list("speed")}), another(api.Station{Tells: list("stop")}))
}

// Names one by one, of what is told ahead of what is taken; numbers behind all names.
func TestOrderOfNames(t *testing.T) {
	all(t, api.ErrName, 0, 0,
		func(p *api.Plan) { p.Field[0].Tells = list("none", "speed") }, func(p *api.Plan) { p.Field[0].Tells, p.Field[0].Takes = list("run", "none"), list("run") },
		func(p *api.Plan) { p.Field[0].Takes = list("none", "run") }, func(p *api.Plan) { p.Field[0].Takes, p.Field[0].Safe = list("speed", "none"), nil },
	)
	all(t, api.ErrWrite, 0, 0, func(p *api.Plan) { p.Field[0].Takes, p.Field[0].Safe = list("run", "speed", "speed"), list(9, 9) })
	all(t, api.ErrTwice, 0, 0, func(p *api.Plan) { p.Field[0].Takes, p.Field[0].Safe = list("speed", "speed", "run"), list(9) })
	all(t, api.ErrTwice, 0, 0, func(p *api.Plan) { p.Field[0].Tells, p.Field[0].Takes = list("run", "run"), list("none") })
}

func TestFaultsOfSafe(t *testing.T) {
	all(t, api.ErrSize, 0, 0,
		func(p *api.Plan) { p.Field[0].Safe = nil }, func(p *api.Plan) { p.Field[0].Safe = list(0) }, func(p *api.Plan) { p.Field[0].Safe = list(0, 1, 0) },
		func(p *api.Plan) { p.Field[0].Safe = list(9) }, func(p *api.Plan) { p.Field[0].Tells = nil }, func(p *api.Plan) { p.Field[0].Safe = make([]int, 100000) },
	)
	all(t, api.ErrSize, 1, 0, another(api.Station{Safe: list(0)}))
	for _, x := range []struct {
		kind      api.Kind
		low, high int
	}{{api.Bool, 0, 1}, {api.Int, -32768, 32767}, {api.Dint, -2147483648, 2147483647}, {api.Word, 0, 65535}, {api.Time, 0, 4294967295}} {
		p := small()
		p.Globals = append(p.Globals, global("x", x.kind, api.FromField))
		for _, n := range []int{x.low - 1, x.high + 1, math.MinInt, math.MaxInt, x.low - 1<<32, x.high + 1<<32} {
			refused(t, with(p, another(api.Station{Tells: list("x"), Safe: list(n)})), api.ErrRange, 1, 0)
		}
		taken(t, with(p, another(api.Station{Tells: list("x"), Safe: list(x.low)})))
		taken(t, with(p, another(api.Station{Tells: list("x"), Safe: list(x.high)})))
	}
	all(t, api.ErrRange, 0, 0, func(p *api.Plan) { p.Field[0].Safe[0] = 2 }, func(p *api.Plan) { p.Field[0].Safe[1] = -1 })
}

// wide: a plan with a second station, which tells so many globals of one kind, and takes so many.
func wide(kind api.Kind, tells, takes int) api.Plan {
	p := small()
	s := api.Station{Number: 5, Watch: 1, Safe: make([]int, tells)}
	for i := range tells {
		p.Globals = append(p.Globals, global(fmt.Sprint("a", i), kind, api.FromField))
		s.Tells = append(s.Tells, fmt.Sprint("a", i))
	}
	for i := range takes {
		p.Globals = append(p.Globals, global(fmt.Sprint("b", i), kind, api.ToField))
		s.Takes = append(s.Takes, fmt.Sprint("b", i))
	}
	p.Field = append(p.Field, s)
	return p
}

// 60 words, and one more.
func TestFaultsOfWords(t *testing.T) {
	for _, kind := range []api.Kind{api.Bool, api.Int, api.Word} {
		taken(t, wide(kind, 60, 0))
		taken(t, wide(kind, 0, 60))
		taken(t, wide(kind, 30, 31))
		refused(t, wide(kind, 61, 0), api.ErrSize, 1, 0)
		refused(t, wide(kind, 0, 61), api.ErrSize, 1, 0)
	}
	for _, kind := range []api.Kind{api.Dint, api.Time} {
		taken(t, wide(kind, 30, 30))
		refused(t, wide(kind, 31, 30), api.ErrSize, 1, 0)
		refused(t, wide(kind, 30, 31), api.ErrSize, 1, 0)
		mixed := wide(kind, 30, 30)
		mixed.Field[1].Tells, mixed.Field[1].Safe = append(mixed.Field[1].Tells, "run"), make([]int, 31)
		mixed.Field[0].Tells, mixed.Field[0].Safe = list("stop"), list(0)
		refused(t, mixed, api.ErrSize, 1, 0)
	}
	narrow := wide(api.Dint, 31, 0)
	narrow.Field[1].Safe[0] = math.MaxInt
	refused(t, narrow, api.ErrSize, 1, 0)
}

func TestFaultsOfGuards(t *testing.T) {
	votes := func(l ...api.Vote) func(*api.Plan) {
		return func(p *api.Plan) { p.Guard.Votes = l }
	}
	right := api.Vote{Need: 1, Of: list(0)}
	all(t, api.ErrSize, 0, 0,
		func(p *api.Plan) { p.Guard = api.Guard{} }, func(p *api.Plan) { p.Guard.Sensors = 0 }, func(p *api.Plan) { p.Guard.Sensors = 65 }, func(p *api.Plan) { p.Guard.Sensors = -1 },
		votes(), votes(slices.Repeat([]api.Vote{right}, 17)...), votes(api.Vote{}),
	)
	all(t, api.ErrRange, 0, 0, func(p *api.Plan) { p.Guard.Delay = -1 }, func(p *api.Plan) { p.Guard.Delay = 1001 }, func(p *api.Plan) { p.Guard.Delay = -1; p.Sensors = nil }, votes(api.Vote{Need: 2, Of: list(0)}))
	all(t, api.ErrRange, 1, 0, votes(right, api.Vote{Need: 0, Of: list(0)}))
	all(t, api.ErrName, 1, 0, votes(right, api.Vote{Need: 1, Of: list(1)}), func(p *api.Plan) { votes(right, api.Vote{Need: 1, Of: list(1)})(p); p.Sensors = list("none") })
	all(t, api.ErrTwice, 2, 0, votes(right, right, api.Vote{Need: 1, Of: list(0, 0)}))
}

func TestFaultsOfSensors(t *testing.T) {
	all(t, api.ErrSize, 0, 0,
		func(p *api.Plan) { p.Sensors = nil }, func(p *api.Plan) { p.Sensors = list("stop", "run") }, func(p *api.Plan) { p.Sensors = list("none", "none") }, func(p *api.Plan) { p.Guard.Sensors = 2 },
		func(p *api.Plan) { p.Guard.Sensors = 64 }, func(p *api.Plan) { p.Sensors = make([]string, 100000) },
	)
	for _, name := range []string{"", "none", "speed", "p", "Stop", "stop "} {
		all(t, api.ErrName, 0, 0, func(p *api.Plan) { p.Sensors[0] = name })
		all(t, api.ErrName, 1, 0, func(p *api.Plan) { p.Guard.Sensors, p.Sensors = 3, list("stop", name, "none") })
	}
	all(t, api.ErrName, 0, 0, func(p *api.Plan) { p.Field = nil }, func(p *api.Plan) { p.Field[0].Tells, p.Field[0].Safe = list("run"), list(0) })
	for _, kind := range []api.Kind{api.Int, api.Dint, api.Word, api.Time} {
		p := wide(kind, 1, 1)
		p.Sensors[0] = "a0"
		refused(t, p, api.ErrName, 0, 0)
	}
	for _, dir := range []api.Dir{api.FromField, api.ToField, api.Memory, api.Setting} {
		all(t, api.ErrName, 0, 0, func(p *api.Plan) {
			p.Globals = append(p.Globals, global("alone", api.Bool, dir))
			p.Sensors[0] = "alone"
		})
	}
	p := wide(api.Bool, 60, 0)
	p.Guard.Sensors, p.Sensors = 60, p.Field[1].Tells
	taken(t, p)
}
