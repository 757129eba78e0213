package plant_test

import (
	"fmt"
	"slices"
	"testing"

	"plantwright/api"
	"plantwright/bus"
	"plantwright/code"
	"plantwright/pair"
	"plantwright/retain"
)

// A plant that is Down tells noughts, until it is up again; a station that was silent for its Watch counts as its Safe; whatever comes, behind each tick there is a state.
func TestWhateverComes(t *testing.T) {
	d := die(9)
	for range 15 {
		p := drawnPlan(&d)
		s := begun(t, p)
		silent := make([]int, len(p.Field))
		for i := range silent {
			silent[i] = 1000
		}
		for range 40 {
			came := drawnFrames(&d, &model{plan: p, links: linksOf(s)})
			x := ticked(t, p, s, d.n(4) == 0, came...)
			s = x.State
			isState(t, p, s, true)
			for _, b := range x.Frames {
				_, _, words, e := bus.Open(b)
				if e != api.OK || s.Trip.Down && slices.ContainsFunc(words, func(w int) bool { return w != 0 }) {
					t.Fatalf("told: %v, %v", words, e)
				}
			}
			for i, st := range p.Field {
				silent[i]++
				if s.Links[i].Fresh && s.Links[i].Age == 0 {
					silent[i] = 0
				}
				if s.Links[i].Fresh != (silent[i] < st.Watch) {
					t.Fatalf("station %d, silent for %d ticks: %v", st.Number, silent[i], s.Links[i])
				}
				for k, name := range st.Tells {
					if silent[i] >= st.Watch && value(p, s, name) != st.Safe[k] {
						t.Fatalf("%s is %d", name, value(p, s, name))
					}
				}
			}
		}
	}
}

func linksOf(s api.State) map[int]api.Link {
	links := map[int]api.Link{}
	for _, l := range s.Links {
		links[l.Station] = l
	}
	return links
}

// Whatever programs do: each run takes no longer than what Build looked at, on any frame.
func TestRunsAreBounded(t *testing.T) {
	p := small()
	p.Text = `PROGRAM p VAR_EXTERNAL speed : INT; END_VAR VAR i, j : INT; x : ARRAY[0..9] OF INT; END_VAR
		FOR i := 1 TO 100 DO WHILE x[j] = 0 MAX 20 DO j := j + speed; END_WHILE; END_FOR; REPEAT x[i] := 1 / j; UNTIL j > 5 MAX 30 END_REPEAT; END_PROGRAM`
	p.Step = 10
	b := taken(t, p)
	d := die(3)
	for range 200 {
		s := begun(t, p)
		for k := range s.Frames[0] {
			s.Frames[0][k] = pick(&d, 0, 1, -1, 5, d.n(70000)-35000, 1<<40, -1<<62)
		}
		s.Values[2] = d.n(5) - 2
		want := slices.Clone(s.Frames[0])
		want[0] = s.Values[2]
		ran := code.Run(b.Code, 0, want, 0)
		x := ticked(t, p, s, false)
		alike(t, "frame", x.State.Frames[0], ran.Frame)
		alike(t, "faults", x.State.Faults, ran.Faults)
		if ran.Steps*p.Step > b.Tasks[0].Cost*1000 || b.Replies[0] > p.Tasks[0].Deadline {
			t.Fatal(ran.Steps, b.Tasks, b.Replies)
		}
	}
}

// What is kept is there again when power comes back, wherever it was lost: what was kept ahead, or what was being kept.
func TestPowerIsLost(t *testing.T) {
	p := large()
	s := busy(t, p)
	slots := [2][]byte{slices.Repeat([]byte{255}, 200), slices.Repeat([]byte{255}, 200)}
	ahead := begun(t, p)
	for round := range 4 {
		words := saved(t, p, s)
		steps, e := retain.Save(slots[0], slots[1], words)
		if e != api.OK {
			t.Fatal(e)
		}
		for cut := 0; ; cut++ {
			torn, done := doSteps(slots, steps, cut)
			got, _, e := retain.Newest(torn[0], torn[1])
			if round > 0 || done {
				if e != api.OK {
					t.Fatal(round, cut, e)
				}
				again := saved(t, p, restored(t, p, begun(t, p), got...))
				if !slices.Equal(again, words) && (done || !slices.Equal(again, saved(t, p, ahead))) {
					t.Fatal(round, cut, again)
				}
			}
			if done {
				slots = torn
				break
			}
		}
		ahead = s
		for range 3 {
			s = ticked(t, p, s, false).State
		}
	}
}

// doSteps: the slots, when power is lost behind so many bytes that were erased or written; true: all was done.
func doSteps(slots [2][]byte, steps []api.Write, bytes int) ([2][]byte, bool) {
	out := [2][]byte{slices.Clone(slots[0]), slices.Clone(slots[1])}
	for _, w := range steps {
		slot := out[w.Slot]
		data := w.Data
		if w.Erase {
			data = slices.Repeat([]byte{255}, len(slot))
		}
		n := min(bytes, len(data))
		copy(slot[w.At:], data[:n])
		if bytes -= n; n < len(data) {
			return out, false
		}
	}
	return out, true
}

// Two controllers that do the same ticks stand alike: when the active one falls silent, the other one goes on where it stopped.
func TestOtherTakesOver(t *testing.T) {
	p := large()
	d := die(11)
	m := newModel(p)
	alone, first, second := begun(t, p), begun(t, p), begun(t, p)
	zero, _ := pair.Start(0, 3, nil)
	one, _ := pair.Start(1, 3, nil)
	for tick := range 60 {
		m.links = linksOf(alone)
		came, key := drawnFrames(&d, m), d.n(3) == 0
		want := ticked(t, p, alone, key, came...)
		got := ticked(t, p, second, key, came...)
		alone, second = want.State, got.State
		if tick < 30 {
			x := ticked(t, p, first, key, came...)
			first = x.State
			alike(t, "the first", x, want)
			zero, _ = pair.Done(zero, saved(t, p, first))
			beat, _ := pair.Send(zero)
			one, _ = pair.Hear(one, beat)
			alike(t, "image", one.Image, saved(t, p, second))
			continue
		}
		one, _ = pair.Wait(one)
		if one.Active != (tick >= 32) {
			t.Fatal(tick, one)
		}
		if one.Active {
			alike(t, "told", got, want)
			one, _ = pair.Done(one, saved(t, p, second))
		}
	}
	alike(t, "cycles", one.Cycle, 30+28)
}

// A plan that is replaced by itself goes on as if nothing had been: all that is told and kept, and every variable, is the same.
func TestReplacedByItselfGoesOn(t *testing.T) {
	d := die(21)
	for round := range 15 {
		p := drawnPlan(&d)
		b := taken(t, p)
		s := begun(t, p)
		again := s
		for i := range 40 {
			if d.n(4) == 0 {
				again = replaced(t, p, again, p)
			}
			came, key := drawnFrames(&d, &model{plan: p, links: linksOf(s)}), d.n(3) == 0
			x, y := ticked(t, p, s, key, came...), ticked(t, p, again, key, came...)
			s, again = x.State, y.State
			alike(t, fmt.Sprint(round, " ", i), y.Frames, x.Frames)
			for k, proc := range b.Code.Procs {
				for _, slot := range proc.Slots {
					if proc.Kind == api.Program {
						alike(t, slot.Path, again.Frames[k][slot.At:slot.At+max(slot.Len, 1)], s.Frames[k][slot.At:slot.At+max(slot.Len, 1)])
					}
				}
			}
			y.State.Frames = x.State.Frames
			alike(t, fmt.Sprint(round, " ", i), y.State, x.State)
		}
	}
}
