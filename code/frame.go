package code

import "plantwright/api"

// layout is where things lie in a unit's frame: its variables and the areas of functions, by their names. A function's result is the first of its variables.
type layout struct {
	*library
	vars  []api.Var
	named map[string]api.Var
	calls []string
	at    map[string]int
	areas map[string]int
	size  int
}

func (l *library) layOut(u api.Unit) *layout {
	f := &layout{library: l, vars: u.Vars, named: map[string]api.Var{}, at: map[string]int{}, areas: map[string]int{}}
	if u.Kind == api.Function {
		result := []api.Var{{Name: u.Name, Role: api.Own, Kind: u.Result}}
		f.vars = append(result, u.Vars...)
	}
	for _, v := range f.vars {
		f.named[v.Name] = v
		f.at[v.Name] = f.size
		f.size += f.words(v)
	}
	f.calls = l.called(u.Body)
	for _, name := range f.calls {
		f.areas[name] = f.size
		f.size += len(l.moulds[name].first)
	}
	return f
}

// words: how many of a frame are a variable's?
func (f *layout) words(v api.Var) int {
	if v.Of != "" {
		return len(f.moulds[v.Of].first)
	}
	return max(v.Len, 1)
}

// first: what the frame begins with.
func (f *layout) first() []int {
	l := make([]int, f.size)
	for _, v := range f.vars {
		own := l[f.at[v.Name]:]
		if v.Of != "" {
			copy(own, f.moulds[v.Of].first)
			continue
		}
		for i := range f.words(v) {
			own[i] = v.Init.N
		}
	}
	for _, name := range f.calls {
		copy(l[f.areas[name]:], f.moulds[name].first)
	}
	return l
}

func (f *layout) slots() []api.Slot {
	var l []api.Slot
	for _, v := range f.vars {
		at, keep := f.at[v.Name], v.Role == api.Keep
		if v.Of == "" {
			l = append(l, api.Slot{Path: v.Name, Kind: v.Kind, At: at, Len: v.Len, Keep: keep, Role: v.Role})
			continue
		}
		for _, s := range f.moulds[v.Of].slots {
			s.Path = v.Name + "." + s.Path
			s.At += at
			s.Keep = s.Keep || keep
			l = append(l, s)
		}
	}
	return l
}

// inputs: where they lie, in order.
func (f *layout) inputs() []int {
	var l []int
	for _, v := range f.vars {
		if v.Role == api.Input {
			l = append(l, f.at[v.Name])
		}
	}
	return l
}
