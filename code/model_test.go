package code_test

import (
	"strings"

	"plantwright/api"
	"plantwright/blocks"
	"plantwright/cell"
	"plantwright/check"
	"plantwright/source"
)

// world is a list of units that are run as the chapter says what they mean, tree by tree, without any code.
type world struct {
	units  []api.Unit
	texts  []string
	now    int
	faults int
}

// scope is a unit with its variables: one value or several, words of a standard block, or an instance; and the functions that it calls.
type scope struct {
	unit  *api.Unit
	words map[string][]int
	parts map[string]*scope
	areas []*scope
}

// way is how it goes on behind a statement.
type way int

const (
	on way = iota
	exit
	next
	back
)

func newWorld(us []api.Unit, gs []api.Global) *world {
	checked, f := check.Check(us, gs)
	if f.Code != api.OK {
		return nil
	}
	w := &world{units: checked}
	for _, u := range us {
		text := source.Show(u)
		w.texts = append(w.texts, strings.NewReplacer("(", "( ", "[", "[ ", "-", "- ").Replace(text))
	}
	return w
}

func (w *world) named(name string) *api.Unit {
	for i := range w.units {
		if w.units[i].Name == name {
			return &w.units[i]
		}
	}
	return nil
}

func (w *world) begin(u *api.Unit) *scope {
	s := &scope{unit: u, words: map[string][]int{}, parts: map[string]*scope{}}
	s.words[u.Name] = []int{0}
	for _, v := range u.Vars {
		if b := w.named(v.Of); b != nil {
			s.parts[v.Name] = w.begin(b)
			continue
		}
		if shape, ok := blocks.Shape(v.Of); ok {
			s.words[v.Name] = make([]int, len(shape.Ins)+len(shape.Outs)+len(shape.State))
			continue
		}
		s.atFirst(v)
	}
	for i := range w.units {
		if f := &w.units[i]; f.Kind == api.Function && strings.Contains(w.textOf(u), " "+f.Name+"( ") {
			s.areas = append(s.areas, w.begin(f))
		}
	}
	return s
}

// textOf: a unit as a text, with a blank ahead of each word.
func (w *world) textOf(u *api.Unit) string {
	for i := range w.units {
		if &w.units[i] == u {
			return w.texts[i]
		}
	}
	panic(u.Name)
}

func (s *scope) atFirst(v api.Var) {
	s.words[v.Name] = nil
	for range max(v.Len, 1) {
		s.words[v.Name] = append(s.words[v.Name], v.Init.N)
	}
}

// frame: all words of a scope.
func (s *scope) frame() []int {
	var l []int
	if s.unit.Kind == api.Function {
		l = append(l, s.words[s.unit.Name]...)
	}
	for _, v := range s.unit.Vars {
		if part := s.parts[v.Name]; part != nil {
			l = append(l, part.frame()...)
		} else {
			l = append(l, s.words[v.Name]...)
		}
	}
	for _, a := range s.areas {
		l = append(l, a.frame()...)
	}
	return l
}

// slots of a scope whose words begin at a place.
func (s *scope) slots(at int, path string, keep bool) []api.Slot {
	var l []api.Slot
	if s.unit.Kind == api.Function {
		l = append(l, api.Slot{Path: path + s.unit.Name, Kind: s.unit.Result, At: at, Role: api.Own})
		at++
	}
	for _, v := range s.unit.Vars {
		k := keep || v.Role == api.Keep
		shape, standard := blocks.Shape(v.Of)
		switch {
		case s.parts[v.Name] != nil:
			l = append(l, s.parts[v.Name].slots(at, path+v.Name+".", k)...)
			at += len(s.parts[v.Name].frame())
			continue
		case !standard:
			l = append(l, api.Slot{Path: path + v.Name, Kind: v.Kind, At: at, Len: v.Len, Keep: k, Role: v.Role})
		}
		for i, p := range shape.Ins {
			l = append(l, api.Slot{Path: path + v.Name + "." + p.Name, Kind: p.Kind, At: at + i, Keep: k, Role: api.Input})
		}
		for i, p := range shape.Outs {
			l = append(l, api.Slot{Path: path + v.Name + "." + p.Name, Kind: p.Kind, At: at + len(shape.Ins) + i, Keep: k, Role: api.Output})
		}
		for i, p := range shape.State {
			l = append(l, api.Slot{Path: path + v.Name + ".%" + p.Name, Kind: p.Kind, At: at + len(shape.Ins) + len(shape.Outs) + i, Keep: k, Role: api.Own})
		}
		at += len(s.words[v.Name])
	}
	return l
}

func (s *scope) variable(name string) api.Var {
	for _, v := range s.unit.Vars {
		if v.Name == name {
			return v
		}
	}
	return api.Var{Name: name, Kind: s.unit.Result}
}

func (w *world) list(s *scope, l []api.Stmt) way {
	for i := range l {
		if g := w.stmt(s, &l[i]); g != on {
			return g
		}
	}
	return on
}

func (w *world) holds(s *scope, e api.Expr) bool {
	return w.value(s, e) != 0
}

func (w *world) stmt(s *scope, x *api.Stmt) way {
	switch x.Verb {
	case api.Set:
		w.set(s, x)
	case api.Invoke:
		w.invoke(s, x)
	case api.If:
		for _, a := range x.Arms {
			if w.holds(s, a.E) {
				return w.list(s, a.Body)
			}
		}
		return w.list(s, x.Else)
	case api.Case:
		n := w.value(s, x.E[0])
		for _, a := range x.Arms {
			for _, l := range a.Labels {
				if l[0] <= n && n <= l[1] {
					return w.list(s, a.Body)
				}
			}
		}
		return w.list(s, x.Else)
	case api.For:
		for n := x.From; n <= x.To; n += x.By {
			s.words[x.Name][0] = n
			if g := w.list(s, x.Body); g == exit {
				break
			} else if g == back {
				return back
			}
		}
	case api.While, api.Repeat:
		return w.loop(s, x)
	case api.Exit:
		return exit
	case api.Next:
		return next
	case api.Return:
		return back
	}
	return on
}

func (w *world) loop(s *scope, x *api.Stmt) way {
	for range x.Times {
		if x.Verb == api.While && !w.holds(s, x.E[0]) {
			return on
		}
		switch w.list(s, x.Body) {
		case exit:
			return on
		case back:
			return back
		}
		if x.Verb == api.Repeat && w.holds(s, x.E[0]) {
			return on
		}
	}
	if x.Verb == api.Repeat || w.holds(s, x.E[0]) {
		w.faults++
	}
	return on
}

func (w *world) set(s *scope, x *api.Stmt) {
	if !x.Item {
		s.words[x.Name][0] = w.value(s, x.E[0])
		return
	}
	i := w.value(s, x.E[1]) - s.variable(x.Name).Low
	n := w.value(s, x.E[0])
	if i < 0 || i >= len(s.words[x.Name]) {
		w.faults++
		return
	}
	s.words[x.Name][i] = n
}

func (w *world) invoke(s *scope, x *api.Stmt) {
	of := s.variable(x.Name).Of
	shape, _ := blocks.Shape(of)
	place := map[string]int{}
	for i, p := range append(append([]api.Pin{}, shape.Ins...), shape.Outs...) {
		place[p.Name] = i
	}
	pin := func(name string) *int {
		if part := s.parts[x.Name]; part != nil {
			return &part.words[name][0]
		}
		return &s.words[x.Name][place[name]]
	}
	for _, a := range x.Args {
		if !a.Out {
			*pin(a.Name) = w.value(s, a.E)
		}
	}
	if part := s.parts[x.Name]; part != nil {
		w.list(part, part.unit.Body)
	} else {
		l := s.words[x.Name]
		ins, outs := l[:len(shape.Ins)], l[len(shape.Ins):len(shape.Ins)+len(shape.Outs)]
		state := l[len(ins)+len(outs):]
		newState, newOuts := blocks.Step(of, state, ins, w.now)
		copy(outs, newOuts)
		copy(state, newState)
	}
	for _, a := range x.Args {
		if a.Out {
			s.words[a.To][0] = *pin(a.Name)
		}
	}
}

func (w *world) value(s *scope, e api.Expr) int {
	switch e.Form {
	case api.Lit:
		return e.N
	case api.Ref:
		return s.words[e.Name][0]
	case api.Item:
		i := w.value(s, e.Kids[0]) - s.variable(e.Name).Low
		if i < 0 || i >= len(s.words[e.Name]) {
			w.faults++
			return 0
		}
		return s.words[e.Name][i]
	case api.Part:
		if part := s.parts[e.Name]; part != nil {
			return part.words[e.Part][0]
		}
		shape, _ := blocks.Shape(s.variable(e.Name).Of)
		for i, p := range shape.Outs {
			if p.Name == e.Part {
				return s.words[e.Name][len(shape.Ins)+i]
			}
		}
	case api.Un, api.Bin:
		return w.done(s, e.Op, e.Kids)
	case api.Call:
		return w.call(s, e)
	}
	panic("no expression")
}

func (w *world) values(s *scope, l []api.Expr) []int {
	var out []int
	for _, e := range l {
		out = append(out, w.value(s, e))
	}
	return out
}

func (w *world) done(s *scope, op api.Op, kids []api.Expr) int {
	l := append(w.values(s, kids), 0)
	n, nought := cell.Do(op, kids[0].Kind, l[0], l[1])
	if nought {
		w.faults++
	}
	return n
}

func (w *world) call(s *scope, e api.Expr) int {
	if op := indexOf(strings.Fields("- add sub mul div mod and or xor eq ne lt le gt ge shl shr rol ror min max not neg abs"), e.Name); op > 0 {
		return w.done(s, api.Op(op), e.Kids)
	}
	args := w.values(s, e.Kids)
	switch {
	case e.Name == "limit":
		return min(max(args[0], args[1]), args[2])
	case e.Name == "sel":
		return args[2-(1-args[0])]
	case strings.Contains(e.Name, "_to_"):
		return cell.Convert(e.Kids[0].Kind, e.Kind, args[0])
	}
	for _, f := range s.areas {
		if f.unit.Name != e.Name {
			continue
		}
		f.words[f.unit.Name] = []int{0}
		for _, v := range f.unit.Vars {
			f.atFirst(v)
			if v.Role == api.Input {
				f.words[v.Name][0] = args[0]
				args = args[1:]
			}
		}
		w.list(f, f.unit.Body)
		return f.words[f.unit.Name][0]
	}
	panic(e.Name)
}
