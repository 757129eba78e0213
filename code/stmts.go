package code

import (
	"plantwright/api"
	"plantwright/cell"
)

func (w *writer) list(l []api.Stmt) {
	for i := range l {
		w.stmt(&l[i])
	}
}

func (w *writer) stmt(s *api.Stmt) {
	switch s.Verb {
	case api.Set:
		w.set(s)
	case api.Invoke:
		w.invoke(s)
	case api.If:
		w.branch(s)
	case api.Case:
		w.choose(s)
	case api.For:
		w.count(s)
	case api.While:
		w.while(s)
	case api.Repeat:
		w.repeat(s)
	case api.Exit:
		l := w.loops[len(w.loops)-1]
		l.exits = append(l.exits, w.put(api.Jump))
	case api.Next:
		l := w.loops[len(w.loops)-1]
		l.nexts = append(l.nexts, w.put(api.Jump))
	case api.Return:
		w.returns = append(w.returns, w.put(api.Jump))
	}
}

func (w *writer) set(s *api.Stmt) {
	if s.Item {
		w.exprs(s.E[1], s.E[0])
		w.element(api.StoreAt, s.Name)
		return
	}
	w.exprs(s.E[0])
	w.put(api.Store, w.at[s.Name])
}

func (w *writer) invoke(s *api.Stmt) {
	at, m := w.instance(s.Name)
	for _, a := range s.Args {
		if !a.Out {
			w.exprs(a.E)
			w.put(api.Store, at+m.at[a.Name])
		}
	}
	w.put(m.do, m.number, at)
	for _, a := range s.Args {
		if a.Out {
			w.put(api.Load, at+m.at[a.Name])
			w.put(api.Store, w.at[a.To])
		}
	}
}

func (w *writer) branch(s *api.Stmt) {
	var ends []int
	for i, a := range s.Arms {
		w.exprs(a.E)
		past := w.put(api.Fall)
		w.list(a.Body)
		if i < len(s.Arms)-1 || len(s.Else) > 0 {
			ends = append(ends, w.put(api.Jump))
		}
		w.here(past)
	}
	w.list(s.Else)
	w.here(ends...)
}

func (w *writer) choose(s *api.Stmt) {
	w.exprs(s.E...)
	var ends []int
	for _, a := range s.Arms {
		bodies := w.labels(a.Labels, s.E[0].Kind)
		past := w.put(api.Jump)
		w.here(bodies...)
		w.put(api.Drop)
		w.list(a.Body)
		ends = append(ends, w.put(api.Jump))
		w.here(past)
	}
	w.put(api.Drop)
	w.list(s.Else)
	w.here(ends...)
}

// labels holds the number on the stack against each label, and tells the jumps that are taken where it is within one.
func (w *writer) labels(l [][2]int, k api.Kind) []int {
	test := func(op api.Op, n int) int {
		w.put(api.Dup)
		w.put(api.Push, n)
		w.work(op, k)
		return w.put(api.Fall)
	}
	var bodies []int
	for _, label := range l {
		var past []int
		if label[0] == label[1] {
			past = append(past, test(api.Eq, label[0]))
		} else {
			past = append(past, test(api.Ge, label[0]), test(api.Le, label[1]))
		}
		bodies = append(bodies, w.put(api.Jump))
		w.here(past...)
	}
	return bodies
}

// loop writes Enter and what inside writes behind it; an EXIT goes behind all that.
func (w *writer) loop(times int, inside func(l *loop)) {
	l := &loop{counter: len(w.loops)}
	w.put(api.Enter, l.counter, times)
	l.body = len(w.text)
	w.loops = append(w.loops, l)
	inside(l)
	w.loops = w.loops[:l.counter]
	w.here(l.exits...)
}

func (w *writer) round(l *loop) {
	w.put(api.Round, l.counter, l.body)
}

func (w *writer) count(s *api.Stmt) {
	if s.To < s.From {
		return
	}
	v := w.named[s.Name]
	at := w.at[s.Name]
	w.put(api.Push, cell.Wrap(v.Kind, s.From-s.By))
	w.put(api.Store, at)
	w.loop((s.To-s.From)/s.By+1, func(l *loop) {
		w.put(api.Load, at)
		w.put(api.Push, s.By)
		w.work(api.Add, v.Kind)
		w.put(api.Store, at)
		w.list(s.Body)
		w.here(l.nexts...)
		w.round(l)
	})
}

func (w *writer) while(s *api.Stmt) {
	w.loop(s.Times, func(l *loop) {
		test := func() {
			w.exprs(s.E...)
			l.exits = append(l.exits, w.put(api.Fall))
		}
		test()
		w.list(s.Body)
		w.here(l.nexts...)
		w.round(l)
		test()
		w.put(api.Late)
	})
}

func (w *writer) repeat(s *api.Stmt) {
	w.loop(s.Times, func(l *loop) {
		w.list(s.Body)
		w.here(l.nexts...)
		w.exprs(s.E...)
		w.work(api.Not, api.Bool)
		l.exits = append(l.exits, w.put(api.Fall))
		w.round(l)
		w.put(api.Late)
	})
}
