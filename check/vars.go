package check

import "plantwright/api"

// desk is where a unit is looked at: its variables by their names, and what stands around the statement that is looked at: the variables of FORs, and how many loops.
type desk struct {
	*book
	unit   *api.Unit
	vars   map[string]api.Var
	counts []string
	loops  int
}

func newDesk(b *book, u *api.Unit) *desk {
	d := &desk{book: b, unit: u, vars: map[string]api.Var{}}
	if u.Kind == api.Function {
		d.vars[u.Name] = api.Var{Name: u.Name, Role: api.Own, Kind: u.Result}
	}
	return d
}

func (d *desk) variables() {
	for i := range d.unit.Vars {
		v := &d.unit.Vars[i]
		d.variable(v)
		d.vars[v.Name] = *v
	}
	ins, outs := len(pins(*d.unit, api.Input)), len(pins(*d.unit, api.Output))
	most := 2 * api.MaxArgs
	if d.unit.Kind == api.Function {
		most = api.MaxArgs
	}
	if ins+outs > most {
		giveUp(api.ErrSize, d.unit.At)
	}
}

func (d *desk) variable(v *api.Var) {
	if _, twice := d.vars[v.Name]; twice || v.Name == d.unit.Name {
		giveUp(api.ErrTwice, v.At)
	}
	if !hasRole(d.unit.Kind, v.Role) {
		giveUp(api.ErrKind, v.At)
	}
	if v.Of != "" {
		d.instance(v)
	}
	if v.Len > 0 && !isInner(v.Role) {
		giveUp(api.ErrKind, v.At)
	}
	if v.Role == api.Extern {
		d.extern(v)
	}
	if v.Init.Form != 0 {
		d.wants(&v.Init, v.Kind)
	}
}

func hasRole(k api.UnitKind, r api.Role) bool {
	switch r {
	case api.Keep:
		return k != api.Function
	case api.Extern:
		return k == api.Program
	case api.Input:
		return k != api.Program
	case api.Output:
		return k == api.Block
	}
	return true
}

// isInner: does nobody outside the unit see such a variable?
func isInner(r api.Role) bool {
	return r == api.Own || r == api.Keep
}

func (d *desk) instance(v *api.Var) {
	if !isInner(v.Role) || d.unit.Kind == api.Function || v.Init.Form != 0 {
		giveUp(api.ErrKind, v.At)
	}
	if _, ok := d.block(v.Of); !ok {
		giveUp(api.ErrName, v.At)
	}
}

func (d *desk) extern(v *api.Var) {
	if v.Init.Form != 0 {
		giveUp(api.ErrKind, v.At)
	}
	g, ok := d.globals[v.Name]
	if !ok {
		giveUp(api.ErrName, v.At)
	}
	if g.Kind != v.Kind {
		giveUp(api.ErrKind, v.At)
	}
}

func (d *desk) named(name string, at int) api.Var {
	v, ok := d.vars[name]
	if !ok {
		giveUp(api.ErrName, at)
	}
	return v
}

// single: a variable that is one value.
func (d *desk) single(name string, at int) api.Var {
	v := d.named(name, at)
	if v.Of != "" || v.Len > 0 {
		giveUp(api.ErrKind, at)
	}
	return v
}

func (d *desk) array(name string, at int) api.Var {
	v := d.named(name, at)
	if v.Len == 0 {
		giveUp(api.ErrKind, at)
	}
	return v
}

// instanceOf: what the block of an instance has.
func (d *desk) instanceOf(name string, at int) face {
	f, ok := d.block(d.named(name, at).Of)
	if !ok {
		giveUp(api.ErrKind, at)
	}
	return f
}
