package plant_test

import (
	"math"
	"slices"
	"testing"

	"plantwright/api"
	"plantwright/plant"
)

// The document's example.
func TestBeginExample(t *testing.T) {
	alike(t, "Begin", begun(t, small()), api.State{
		Frames: [][]int{{0, 0, 0}}, Values: list(0, 1, 0),
		Links: []api.Link{{Station: 4, Watch: 3, Safe: list(0, 1), Words: list(0, 1)}},
		Seqs:  list(0), Trip: api.Trip{First: -1, Held: list(0)},
	})
}

// Programs begin with First, functions and blocks have none; globals are what is safe, if a station tells them, else 0; what is safe lies on the bus in words.
func TestBegin(t *testing.T) {
	p := large()
	s := begun(t, p)
	b := taken(t, p)
	for i, proc := range b.Code.Procs {
		var want []int
		if proc.Kind == api.Program {
			want = proc.First
		}
		alike(t, proc.Name, s.Frames[i], want)
	}
	alike(t, "values", s.Values, list(0, 0, -2, -70000, 65535, 4294967295, 1, 1, 0, 0, 0, 0, 0, 0, 0, 0))
	first, second, third := list(0, 65534, 61072, 65534), list(65535, 65535, 65535, 1), list(1)
	alike(t, "links", s.Links, []api.Link{
		{Station: 4, Watch: 3, Safe: first, Words: first}, {Station: 7, Watch: 1, Safe: second, Words: second},
		{Station: 0, Watch: 2, Safe: third, Words: third}, {Station: 247, Watch: 1000},
	})
	alike(t, "the rest", []any{s.Now, s.Seqs, s.Trip, s.Faults, len(s.Frames)}, []any{0, list(0, 0, 0, 0), api.Trip{First: -1, Held: list(0, 0)}, 0, len(b.Code.Procs)})
	isState(t, p, s, true)
}

// isState: do Tick, Save, Restore and Replace take a state, or do all of them tell ErrState?
func isState(t *testing.T, p api.Plan, s api.State, want bool) {
	t.Helper()
	words, e := plant.Save(p, s)
	if want != (e == api.OK) {
		t.Fatalf("Save of %s: %v", brief(s), e)
	}
	restored, e2 := plant.Restore(p, s, words)
	if want != (e2 == api.OK) {
		t.Fatalf("Restore of %s: %v", brief(s), e2)
	}
	x := plant.Tick(p, s, nil, false)
	if want != (x.Code == api.OK || s.Now == api.MaxNow && x.Code == api.ErrEnd) {
		t.Fatalf("Tick of %s: %v", brief(s), x.Code)
	}
	replaced, e3 := plant.Replace(p, s, p)
	if want != (e3 == api.OK) {
		t.Fatalf("Replace of %s: %v", brief(s), e3)
	}
	if want {
		return
	}
	none(t, "Save", words, e, api.ErrState)
	none(t, "Restore", restored, e2, api.ErrState)
	none(t, "Tick", x.State, x.Code, api.ErrState)
	none(t, "Tick", x.Frames, x.Code, api.ErrState)
	none(t, "Replace", replaced, e3, api.ErrState)
}

// states: changes of a state behind which it is one, or none any more.
func states(t *testing.T, p api.Plan, want bool, alter ...func(*api.State)) {
	t.Helper()
	x := ticked(t, p, begun(t, p), false, frame(4, 9, 1, 2, 3, 4))
	for _, a := range alter {
		isState(t, p, with(x.State, a), want)
	}
}

func TestStateNumbers(t *testing.T) {
	p := large()
	for _, n := range []int{0, 1, 999, 1<<31 - 1, 1 << 31, api.MaxNow - 1, api.MaxNow} {
		states(t, p, true, func(s *api.State) { s.Now = n }, func(s *api.State) { s.Faults = n })
	}
	for _, n := range []int{-1, api.MaxNow + 1, math.MinInt, math.MaxInt, -1 << 32} {
		states(t, p, false, func(s *api.State) { s.Now = n }, func(s *api.State) { s.Faults = n })
	}
	for _, n := range []int{0, 1, 127, 128, 254, 255} {
		states(t, p, true, func(s *api.State) { s.Seqs[0] = n }, func(s *api.State) { s.Seqs[3] = n })
	}
	for _, n := range []int{-1, 256, 257, math.MinInt, math.MaxInt, 1 << 32} {
		states(t, p, false, func(s *api.State) { s.Seqs[0] = n }, func(s *api.State) { s.Seqs[3] = n })
	}
}

// Lists that are too short, too long, or nil.
func TestStateLists(t *testing.T) {
	p := large()
	states(t, p, true, func(*api.State) {}, func(s *api.State) { s.Frames[0], s.Frames[1] = nil, []int{} }, func(s *api.State) { s.Links[3].Safe, s.Links[3].Words = nil, []int{} })
	states(t, p, false,
		func(s *api.State) { *s = api.State{} },
		func(s *api.State) { s.Frames = nil }, func(s *api.State) { s.Frames = s.Frames[:5] }, func(s *api.State) { s.Frames = append(s.Frames, nil) },
		func(s *api.State) { s.Values = nil }, func(s *api.State) { s.Values = s.Values[:15] }, func(s *api.State) { s.Values = append(s.Values, 0) },
		func(s *api.State) { s.Links = nil }, func(s *api.State) { s.Links = s.Links[:3] }, func(s *api.State) { s.Links = append(s.Links, s.Links[3]) },
		func(s *api.State) { s.Seqs = nil }, func(s *api.State) { s.Seqs = s.Seqs[:3] }, func(s *api.State) { s.Seqs = append(s.Seqs, 0) },
		func(s *api.State) { s.Trip.Held = nil }, func(s *api.State) { s.Trip.Held = s.Trip.Held[:1] }, func(s *api.State) { s.Trip.Held = append(s.Trip.Held, 0) },
		func(s *api.State) { s.Seqs, s.Links = nil, nil },
	)
	small := small()
	s := begun(t, small)
	isState(t, large(), s, false)
	isState(t, small, begun(t, large()), false)
}

// Programs have as many words as First, whatever these are; functions and blocks have none.
func TestStateFrames(t *testing.T) {
	p := large()
	for i, proc := range taken(t, p).Code.Procs {
		states(t, p, false, func(s *api.State) { s.Frames[i] = append(s.Frames[i], 0) })
		if proc.Kind != api.Program {
			states(t, p, false, func(s *api.State) { s.Frames[i] = proc.First })
			continue
		}
		states(t, p, false, func(s *api.State) { s.Frames[i] = s.Frames[i][1:] }, func(s *api.State) { s.Frames[i] = nil })
		for _, n := range []int{math.MinInt, -1, 2, 1 << 40, math.MaxInt} {
			states(t, p, true, func(s *api.State) {
				for k := range s.Frames[i] {
					s.Frames[i][k] = n
				}
			})
		}
	}
}

// A global's value is one that its kind has.
func TestStateValues(t *testing.T) {
	p := large()
	low := map[api.Kind]int{api.Bool: 0, api.Int: -32768, api.Dint: -2147483648, api.Word: 0, api.Time: 0}
	high := map[api.Kind]int{api.Bool: 1, api.Int: 32767, api.Dint: 2147483647, api.Word: 65535, api.Time: 4294967295}
	for i, g := range p.Globals {
		states(t, p, true, func(s *api.State) { s.Values[i] = low[g.Kind] }, func(s *api.State) { s.Values[i] = high[g.Kind] })
		for _, n := range []int{low[g.Kind] - 1, high[g.Kind] + 1, math.MinInt, math.MaxInt, 1 << 32} {
			states(t, p, false, func(s *api.State) { s.Values[i] = n })
		}
	}
}

// A link could be, and is its station's.
func TestStateLinks(t *testing.T) {
	p := large()
	states(t, p, true,
		func(s *api.State) { s.Links[0].Age = 2 }, func(s *api.State) { s.Links[0].Seq = 255 }, func(s *api.State) { s.Links[0].Words = list(65535, 0, 0, 65535) },
		func(s *api.State) { s.Links[3].Fresh, s.Links[3].Age = true, 999 },
	)
	states(t, p, false,
		func(s *api.State) { s.Links[0].Station = 5 }, func(s *api.State) { s.Links[0].Station = 7 }, func(s *api.State) { s.Links[0].Watch = 4 }, func(s *api.State) { s.Links[0].Watch = 2 },
		func(s *api.State) { s.Links[0].Safe[0] = 1 }, func(s *api.State) { s.Links[0].Safe[3] = 0 }, func(s *api.State) { s.Links[0].Safe = list(0, -2, -70000) },
		func(s *api.State) { s.Links[0].Safe, s.Links[0].Words = nil, nil }, func(s *api.State) { s.Links[0].Words = s.Links[0].Words[:3] }, func(s *api.State) { s.Links[0].Words = append(s.Links[0].Words, 0) },
		func(s *api.State) { s.Links[0].Words[1] = 65536 }, func(s *api.State) { s.Links[0].Words[2] = -1 }, func(s *api.State) { s.Links[0].Seq = 256 }, func(s *api.State) { s.Links[0].Seq = -1 },
		func(s *api.State) { s.Links[0].Age = 3 }, func(s *api.State) { s.Links[0].Age = -1 }, func(s *api.State) { s.Links[0].Fresh = false }, func(s *api.State) { s.Links[1].Age = 1 },
		func(s *api.State) { s.Links[1].Words[0] = 0 }, func(s *api.State) { s.Links[3].Safe, s.Links[3].Words = list(0), list(0) }, func(s *api.State) { s.Links[3].Age = 1 },
		func(s *api.State) { s.Links[0], s.Links[1] = s.Links[1], s.Links[0] }, func(s *api.State) { s.Links[2] = api.Link{} },
	)
}

// A trip is one of the guard's.
func TestStateTrip(t *testing.T) {
	p := large()
	states(t, p, true,
		func(s *api.State) { s.Trip.Held = list(2, 2) }, func(s *api.State) { s.Trip.Key = true }, func(s *api.State) { s.Trip = api.Trip{First: -1, Held: list(0, 0)} },
		func(s *api.State) { s.Trip.Down, s.Trip.First = true, 0 }, func(s *api.State) { s.Trip.Down, s.Trip.First = true, 1 },
	)
	states(t, p, false,
		func(s *api.State) { s.Trip = api.Trip{} }, func(s *api.State) { s.Trip.Held = list(3, 0) }, func(s *api.State) { s.Trip.Held = list(0, -1) },
		func(s *api.State) { s.Trip.Down, s.Trip.First = true, 2 }, func(s *api.State) { s.Trip.Down, s.Trip.First = true, -1 }, func(s *api.State) { s.Trip.Down, s.Trip.First = false, 0 },
	)
}

// The errors in their order: ErrPlan, ErrState, then what a call itself refuses.
func TestErrorsInOrder(t *testing.T) {
	p := small()
	s := with(begun(t, p), func(s *api.State) { s.Now = api.MaxNow })
	wrongState := with(s, func(s *api.State) { s.Seqs[0] = -1 })
	wrongPlan := with(p, func(p *api.Plan) { p.Step = 0 })
	for _, x := range []struct {
		plan  api.Plan
		state api.State
		want  api.Errno
	}{{wrongPlan, s, api.ErrPlan}, {wrongPlan, wrongState, api.ErrPlan}, {p, wrongState, api.ErrState}, {p, s, api.ErrEnd}} {
		got := plant.Tick(x.plan, x.state, nil, false)
		none(t, "Tick", got.State, got.Code, x.want)
		none(t, "Tick", got.Frames, got.Code, x.want)
	}
	for _, words := range [][]int{nil, {-1}, {1, 2}} {
		got, e := plant.Restore(wrongPlan, wrongState, words)
		none(t, "Restore", got, e, api.ErrPlan)
		got, e = plant.Restore(p, wrongState, words)
		none(t, "Restore", got, e, api.ErrState)
	}
	got, e := plant.Replace(p, wrongState, wrongPlan)
	none(t, "Replace", got, e, api.ErrPlan)
	got, e = plant.Replace(wrongPlan, wrongState, p)
	none(t, "Replace", got, e, api.ErrPlan)
	got, e = plant.Replace(p, wrongState, p)
	none(t, "Replace", got, e, api.ErrState)
	if _, e = plant.Begin(wrongPlan); e != api.ErrPlan {
		t.Error(e)
	}
}

// A state that is at its end is one: only a tick is refused.
func TestStateAtItsEnd(t *testing.T) {
	p := small()
	s := with(begun(t, p), func(s *api.State) { s.Now = api.MaxNow })
	x := plant.Tick(p, s, slices.Repeat([][]byte{frame(4, 1, 1, 0)}, 3), true)
	none(t, "Tick", x.State, x.Code, api.ErrEnd)
	if _, e := plant.Save(p, s); e != api.OK {
		t.Error(e)
	}
	got, e := plant.Replace(p, s, p)
	alike(t, "Replace", []any{got, e}, []any{s, api.OK})
	s.Now--
	x = ticked(t, p, s, false)
	alike(t, "Now", x.State.Now, api.MaxNow)
}
