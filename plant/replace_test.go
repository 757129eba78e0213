package plant_test

import (
	"slices"
	"strings"
	"testing"

	"plantwright/api"
	"plantwright/change"
	"plantwright/plant"
)

// replaced: the state with which a new plan goes on.
func replaced(t *testing.T, old api.Plan, s api.State, now api.Plan) api.State {
	t.Helper()
	taken(t, now)
	got, e := plant.Replace(old, s, now)
	if e != api.OK {
		t.Fatalf("Replace of %s by %s: %v", brief(s), brief(now), e)
	}
	isState(t, now, got, true)
	return got
}

// The document's example.
func TestReplaceExample(t *testing.T) {
	p := small()
	s := ticked(t, p, begun(t, p), false).State
	s = ticked(t, p, s, true, frame(4, 9, 1, 0)).State
	s = ticked(t, p, s, false).State
	now := with(p, func(p *api.Plan) {
		p.Text = strings.Replace(p.Text, "IF run", "VAR more : INT := 7; END_VAR IF run", 1)
	})
	got := replaced(t, p, s, now)
	alike(t, "Replace", got, with(s, func(s *api.State) { s.Frames = [][]int{{1, 50, 1, 7}} }))
	alike(t, "numbers", []any{got.Now, got.Values, got.Links[0].Seq, got.Seqs}, []any{3, list(1, 0, 50), 9, list(3)})
}

// busy: a state of the large plan in which nothing is as at first.
func busy(t *testing.T, p api.Plan) api.State {
	t.Helper()
	s := heard(t, p)
	for i := range 9 {
		s = ticked(t, p, s, i == 5, frame(4, 11+i, 1, 100+i, 7, 8), frame(7, 21+i, 5, 6, 7, 0), frame(0, 31+i, 1)).State
	}
	s.Trip.Key, s.Values[13], s.Values[15] = true, -4, 1
	return s
}

// A plan that is replaced by itself has all that it had, but for the areas of functions, which no run looks at.
func TestReplaceByItself(t *testing.T) {
	p := large()
	s := busy(t, p)
	got := replaced(t, p, s, p)
	c := taken(t, p).Code
	for i, proc := range c.Procs {
		if proc.Kind == api.Program {
			carried, _ := change.Carry(proc, s.Frames[i], proc)
			alike(t, proc.Name, got.Frames[i], carried.Frame)
		}
		for _, slot := range proc.Slots {
			if proc.Kind == api.Program {
				alike(t, slot.Path, got.Frames[i][slot.At], s.Frames[i][slot.At])
			}
		}
	}
	got.Frames = s.Frames
	alike(t, "the rest", got, s)
}

// Replaced by another plan: what differs begins as at first, all else stays.
func TestReplaceParts(t *testing.T) {
	p := large()
	s := busy(t, p)
	first := begun(t, p)
	same := replaced(t, p, s, p)
	for _, x := range []struct {
		what  string
		alter func(*api.Plan)
		want  func(*api.State)
	}{
		{"watch", func(p *api.Plan) { p.Field[0].Watch = 4 }, func(s *api.State) { s.Links[0], s.Links[0].Watch, s.Seqs[0] = first.Links[0], 4, 0 }},
		{"safe", func(p *api.Plan) { p.Field[2].Safe[0] = 0 }, func(s *api.State) {
			s.Links[2], s.Seqs[2] = api.Link{Station: 0, Watch: 2, Safe: list(0), Words: list(0)}, 0
		}},
		{"tells other ones", func(p *api.Plan) {
			p.Field[2].Tells[0] = "alone"
			p.Guard.Sensors, p.Sensors, p.Guard.Votes = 1, list("stop"), p.Guard.Votes[:1]
			p.Guard.Votes[0] = api.Vote{Need: 1, Of: list(0)}
		}, func(s *api.State) {
			s.Links[2], s.Seqs[2], s.Trip = first.Links[2], 0, api.Trip{First: -1, Held: list(0)}
		}},
		{"tells in another order", func(p *api.Plan) {
			p.Field[1].Tells, p.Field[1].Safe = list("wait", "mask", "stop"), list(4294967295, 65535, 1)
		}, func(s *api.State) { s.Links[1], s.Seqs[1] = first.Links[1], 0 }},
		{"takes", func(p *api.Plan) { p.Field[2].Takes = nil }, func(*api.State) {}},
		{"number", func(p *api.Plan) { p.Field[0].Number = 5 }, func(s *api.State) { s.Links[0], s.Links[0].Station, s.Seqs[0] = first.Links[0], 5, 0 }},
		{"order of stations", func(p *api.Plan) { p.Field[0], p.Field[1] = p.Field[1], p.Field[0] }, func(s *api.State) {
			s.Links[0], s.Links[1], s.Seqs[0], s.Seqs[1] = s.Links[1], s.Links[0], s.Seqs[1], s.Seqs[0]
		}},
		{"a station more", func(p *api.Plan) { p.Field = append(p.Field, api.Station{Number: 9, Watch: 5}) }, func(s *api.State) {
			s.Links, s.Seqs = append(s.Links, api.Link{Station: 9, Watch: 5}), append(s.Seqs, 0)
		}},
		{"a station less", func(p *api.Plan) { p.Field = p.Field[:3] }, func(s *api.State) { s.Links, s.Seqs = s.Links[:3], s.Seqs[:3] }},
		{"delay", func(p *api.Plan) { p.Guard.Delay = 2 }, func(s *api.State) { s.Trip = first.Trip }},
		{"need", func(p *api.Plan) { p.Guard.Votes[0].Need = 1 }, func(s *api.State) { s.Trip = first.Trip }},
		{"sensors of a vote", func(p *api.Plan) { p.Guard.Votes[0].Of = list(0, 2) }, func(s *api.State) { s.Trip = first.Trip }},
		{"their order", func(p *api.Plan) { p.Guard.Votes[0].Of = list(1, 0) }, func(s *api.State) { s.Trip = first.Trip }},
		{"order of votes", func(p *api.Plan) { slices.Reverse(p.Guard.Votes) }, func(s *api.State) { s.Trip = first.Trip }},
		{"a vote more", func(p *api.Plan) { p.Guard.Votes = append(p.Guard.Votes, p.Guard.Votes[1]) }, func(s *api.State) { s.Trip = api.Trip{First: -1, Held: list(0, 0, 0)} }},
		{"a vote less", func(p *api.Plan) { p.Guard.Votes = p.Guard.Votes[:1] }, func(s *api.State) { s.Trip = api.Trip{First: -1, Held: list(0)} }},
		{"a sensor more", func(p *api.Plan) { p.Guard.Sensors, p.Sensors = 4, append(p.Sensors, "go") }, func(s *api.State) { s.Trip = first.Trip }},
		{"other sensors", func(p *api.Plan) { p.Sensors[0] = "go" }, func(s *api.State) { s.Trip = first.Trip }},
		{"tasks", func(p *api.Plan) { p.Tasks = p.Tasks[1:2]; p.Tasks[0].Offset = 7000 }, func(*api.State) {}},
		{"step", func(p *api.Plan) { p.Step = 1 }, func(*api.State) {}},
	} {
		now := with(p, x.alter)
		alike(t, x.what, replaced(t, p, s, now), with(same, x.want))
	}
}

// A global keeps its value, wherever it stands, if its Kind and its Dir are the same.
func TestReplaceValues(t *testing.T) {
	p := small()
	p.Text = "PROGRAM p END_PROGRAM"
	p.Field[0].Takes = nil
	p.Globals = append(p.Globals, global("a", api.Int, api.Memory), global("b", api.Int, api.ToField), global("c", api.Int, api.Setting), global("d", api.Int, api.FromField), global("e", api.Time, api.Memory))
	s := with(begun(t, p), func(s *api.State) { s.Values = list(1, 0, 3, 4, 5, 6, 7, 8) })
	same := replaced(t, p, s, p)
	alike(t, "all", same.Values, s.Values)
	turned := with(p, func(p *api.Plan) { slices.Reverse(p.Globals) })
	alike(t, "turned", replaced(t, p, s, turned).Values, list(8, 7, 6, 5, 4, 3, 0, 1))
	fewer := with(p, func(p *api.Plan) {
		p.Globals = append(p.Globals[:3], p.Globals[5], global("new", api.Int, api.Memory), global("a", api.Int, api.Setting))
	})
	alike(t, "fewer", replaced(t, p, s, fewer).Values, list(1, 0, 3, 6, 0, 0))
	for i := range 4 {
		for _, kind := range []api.Kind{api.Bool, api.Int, api.Dint, api.Word, api.Time} {
			for dir := api.FromField; dir <= api.Setting; dir++ {
				now := with(p, func(p *api.Plan) { p.Globals[3+i].Kind, p.Globals[3+i].Dir = kind, dir })
				want := slices.Clone(s.Values)
				if now.Globals[3+i] != p.Globals[3+i] {
					want[3+i] = 0
				}
				alike(t, text(now.Globals[3+i]), replaced(t, p, s, now).Values, want)
			}
		}
	}
}

// A global that a station tells keeps its value likewise, till the next tick, also where the station's link begins anew; one that is new has what is safe.
func TestReplaceToldValues(t *testing.T) {
	p := small()
	s := ticked(t, p, begun(t, p), false, frame(4, 1, 1, 0)).State
	now := with(p, func(p *api.Plan) {
		p.Field[0].Watch = 9
		p.Globals = append(p.Globals, global("more", api.Dint, api.FromField))
		p.Field = append(p.Field, api.Station{Number: 5, Watch: 1, Tells: list("more"), Safe: list(-3)})
	})
	got := replaced(t, p, s, now)
	alike(t, "values", got.Values, list(1, 0, 50, -3))
	alike(t, "link", got.Links[0], api.Link{Station: 4, Watch: 9, Safe: list(0, 1), Words: list(0, 1)})
	alike(t, "next", ticked(t, now, got, false).State.Values, list(0, 1, 50, -3))
}

// A link whose words would be other ones when it is safe begins anew, though what is safe is the same.
func TestReplaceSafeWords(t *testing.T) {
	kinds := []api.Kind{api.Bool, api.Int, api.Dint, api.Word, api.Time}
	isWide := func(k api.Kind) bool { return k == api.Dint || k == api.Time }
	for _, from := range kinds {
		for _, to := range kinds {
			old, now := wide(from, 2, 0), wide(to, 2, 0)
			old.Field[1].Safe, now.Field[1].Safe = list(1, 0), list(1, 0)
			words := list(3, 4)
			if isWide(from) {
				words = list(3, 4, 5, 6)
			}
			s := ticked(t, old, begun(t, old), false, frame(5, 77, words...)).State
			s.Seqs[1] = 9
			got := replaced(t, old, s, now)
			if isWide(from) == isWide(to) {
				alike(t, text(from, to), []any{got.Links[1], got.Seqs}, []any{s.Links[1], s.Seqs})
			} else {
				alike(t, text(from, to), []any{got.Links[1], got.Seqs}, []any{begun(t, now).Links[1], list(1, 0)})
			}
		}
	}
	old, now := wide(api.Int, 1, 0), wide(api.Word, 1, 0) // the same words, but not the same Safe
	old.Field[1].Safe[0], now.Field[1].Safe[0] = -1, 65535
	s := ticked(t, old, begun(t, old), false, frame(5, 77, 3)).State
	alike(t, "other Safe", replaced(t, old, s, now).Links[1], begun(t, now).Links[1])
	old = wide(api.Int, 2, 0)
	old.Globals[4].Kind = api.Dint // a0 is one word, a1 two; then the other way round
	now = wide(api.Dint, 2, 0)
	now.Globals[4].Kind = api.Int
	s = ticked(t, old, begun(t, old), false, frame(5, 77, 3, 4, 5)).State
	alike(t, "noughts", replaced(t, old, s, now).Links[1], s.Links[1])
	old.Field[1].Safe, now.Field[1].Safe = list(1, 2), list(1, 2)
	s = ticked(t, old, begun(t, old), false, frame(5, 77, 3, 4, 5)).State
	alike(t, "numbers", replaced(t, old, s, now).Links[1], begun(t, now).Links[1])
}

// Programs are found by their names, wherever they stand; those of that name that are no program do not count.
func TestReplacePrograms(t *testing.T) {
	old, now := small(), small()
	old.Text = "PROGRAM a VAR x : INT := 1; END_VAR END_PROGRAM FUNCTION b : INT VAR_INPUT x : INT; END_VAR END_FUNCTION FUNCTION_BLOCK c VAR x : INT; END_VAR END_FUNCTION_BLOCK PROGRAM d VAR x, y : INT; END_VAR END_PROGRAM PROGRAM e END_PROGRAM"
	old.Tasks[0].Name = "a"
	now.Text = "PROGRAM e VAR x : INT := 3; END_VAR END_PROGRAM PROGRAM d VAR y : INT; z : INT := 4; x : DINT := 5; END_VAR END_PROGRAM PROGRAM c VAR x : INT := 6; END_VAR END_PROGRAM PROGRAM b VAR x : INT := 7; END_VAR END_PROGRAM"
	now.Ladders = list("LADDER a VAR x : INT := 8; y : BOOL; END_VAR RUNG [y] => y; END_LADDER")
	now.Tasks[0].Name = "d"
	s := with(begun(t, old), func(s *api.State) { s.Frames = [][]int{{11}, nil, nil, {14, 15}, nil}; s.Now, s.Faults = 12345, 6 })
	got := replaced(t, old, s, now)
	alike(t, "frames", got.Frames, [][]int{{3}, {15, 4, 5}, {6}, {7}, {11, 0, 0}})
	alike(t, "numbers", list(got.Now, got.Faults), list(12345, 6))
	back := replaced(t, now, got, old)
	alike(t, "back", back.Frames, [][]int{{11}, nil, nil, {0, 15}, nil})
}

// Words that do not fit their kinds go over as they are.
func TestReplaceStrangeWords(t *testing.T) {
	p := small()
	s := with(begun(t, p), func(s *api.State) { s.Frames[0] = list(7, 1<<40, -99999) })
	alike(t, "frame", replaced(t, p, s, p).Frames[0], list(7, 1<<40, -99999))
}
