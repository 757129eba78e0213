package plant_test

import (
	"testing"

	"plantwright/api"
	"plantwright/plant"
)

// given is what the calls are handed in.
type given struct {
	Plan  api.Plan
	State api.State
	Came  [][]byte
	Key   bool
	Words []int
	Next  api.Plan
}

// answers: what all calls tell.
type answers struct {
	Built                    api.Built
	Fault                    api.Fault
	Begun, Restored, Changed api.State
	Ticked                   api.Ticked
	Saved                    []int
	Codes                    []api.Errno
}

func ask(g given) answers {
	var a answers
	var e [4]api.Errno
	a.Built, a.Fault = plant.Build(g.Plan)
	a.Begun, e[0] = plant.Begin(g.Plan)
	a.Ticked = plant.Tick(g.Plan, g.State, g.Came, g.Key)
	a.Saved, e[1] = plant.Save(g.Plan, g.State)
	a.Restored, e[2] = plant.Restore(g.Plan, g.State, g.Words)
	a.Changed, e[3] = plant.Replace(g.Plan, g.State, g.Next)
	a.Codes = e[:]
	return a
}

// someGiven: calls that are right, of a plant at first, of one that is down, of one that goes on, replaced by itself and by others; and calls that are refused.
func someGiven(t *testing.T) []given {
	p := large()
	s := busy(t, p)
	words := saved(t, p, s)
	came := [][]byte{frame(4, 50, 1, 2, 3, 4), frame(7, 60, 1, 1, 1, 1), frame(0, 70, 1), {}, frame(4, 49, 1, 2, 3, 4)}
	l := []given{
		{Plan: p, State: s, Came: came, Words: words, Next: p},
		{Plan: p, State: s, Key: true, Words: words, Next: with(p, func(p *api.Plan) { p.Field, p.Globals[0].Dir = p.Field[:3], api.ToField })},
		{Plan: p, State: begun(t, p), Came: came, Words: words, Next: with(p, func(p *api.Plan) { p.Field[0].Watch, p.Guard.Delay = 7, 9 })},
		{Plan: p, State: with(s, func(s *api.State) { s.Trip.Down, s.Trip.First = true, 1 }), Came: came[:2], Words: words, Next: with(p, func(p *api.Plan) { p.Ladders = nil; p.Tasks = p.Tasks[:2] })},
		{Plan: small(), State: begun(t, small()), Came: [][]byte{frame(4, 1, 1, 0)}, Words: list(7), Next: small()},
		{Plan: p, State: with(s, func(s *api.State) { s.Now = api.MaxNow }), Came: came, Words: words[1:], Next: small()},
		{Plan: p, State: begun(t, small()), Came: came, Words: words, Next: p},
		{},
	}
	for _, f := range faults() {
		l = append(l, given{Plan: with(p, f.alter), State: s, Came: came, Words: words, Next: p}, given{Plan: p, State: s, Came: came, Words: append(words, 1), Next: with(p, f.alter)})
	}
	return l
}

// What is handed in is not changed, its spare room neither; and what lies there is not looked at.
func TestArgumentsStay(t *testing.T) {
	for _, g := range someGiven(t) {
		wide := roomy(g, 3)
		before := whole(wide)
		got := text(ask(wide))
		if whole(wide) != before {
			t.Fatalf("changed: %s", brief(g))
		}
		alike(t, brief(g), got, text(ask(twin(g))))
	}
}

// What is written into an answer, its spare room too, is seen neither in what was handed in nor in another answer nor elsewhere in this one; what is handed in may change behind a call.
func TestAnswersAreNew(t *testing.T) {
	for _, g := range someGiven(t) {
		g = roomy(g, 3)
		before := whole(g)
		first, second := ask(g), ask(g)
		kept := whole(second)
		spoil(first)
		if whole(g) != before {
			t.Fatalf("an answer shares memory with what was handed in: %s", brief(g))
		}
		if whole(second) != kept {
			t.Fatalf("two answers share memory: %s", brief(g))
		}
		spoil(g)
		if whole(second) != kept {
			t.Fatalf("a list was kept: %s", brief(g))
		}
	}
}

// No two lists of one answer share memory: each is written over by itself, with a number of its own.
func TestListsAreApart(t *testing.T) {
	for _, g := range someGiven(t) {
		a := ask(g)
		want := map[int]int{}
		n := 0
		each := func(do func(l []int)) {
			for _, s := range []api.State{a.Begun, a.Restored, a.Changed, a.Ticked.State} {
				for _, l := range s.Frames {
					do(l)
				}
				for _, l := range s.Links {
					do(l.Safe)
					do(l.Words)
				}
				do(s.Values)
				do(s.Seqs)
				do(s.Trip.Held)
			}
			do(a.Saved)
			do(a.Built.Places)
			do(a.Built.Replies)
			for _, p := range a.Built.Code.Procs {
				do(p.First)
			}
		}
		each(func(l []int) {
			n++
			want[n] = len(l)
			l = l[:cap(l)]
			for i := range l {
				l[i] = n
			}
		})
		n = 0
		each(func(l []int) {
			n++
			for _, x := range l[:cap(l)] {
				if x != n || len(l) != want[n] {
					t.Fatalf("list %d of %s shares memory", n, brief(g))
				}
			}
		})
		for i, b := range a.Ticked.Frames {
			for k := range b[:cap(b)] {
				b[:cap(b)][k] = byte(i)
			}
		}
		for i, b := range a.Ticked.Frames {
			for _, x := range b[:cap(b)] {
				if x != byte(i) {
					t.Fatal("frames share memory")
				}
			}
		}
	}
}

// An answer hangs on no call ahead of it.
func TestNothingIsKept(t *testing.T) {
	l := someGiven(t)
	tell := func(from int) []string {
		out := make([]string, len(l))
		for i := range l {
			k := (i + from) % len(l)
			out[k] = text(ask(l[k]))
		}
		return out
	}
	first := tell(0)
	alike(t, "again", tell(0), first)
	alike(t, "in another order", tell(5), first)
}
